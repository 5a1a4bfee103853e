/- Merged texts: GcsG GcsH GcsK GcsI. -/
import Derived.Test.YtplnmjdafchjbaaMay
import Derived.Test.YtplnmjdafchjbaaMaf
import Derived.Test.YtplnmjdafchjbaaMaj
/- The document's own answers of layer 13: a filter's numbers, read one by one. -/
namespace Go.Proofs.Ytplnmjdafchjbaa
open Go.RowKit
set_option linter.unusedVariables false
set_option linter.unusedSimpArgs false

set_option maxRecDepth 100000 in
theorem vals_loop (b : List UInt8) (n : Nat) (r : List Nat × Nat × List Bool) (hE : cvE b 0 1000 = 0) (hV : cvV b 0 1000 = n) (hn : 0 < n) (hr : vgo (n * 784931) n (unp (cvL b 0 1000)) 0 = r) :
    vals b = if r.2.1 ≠ 0 then ([], r.2.1) else if cln r.2.2 then (r.1, 0) else ([], 3) := by
  unfold vals
  rw [if_neg (by omega), if_neg (by omega), hV, hr]

set_option maxRecDepth 100000 in
set_option maxHeartbeats 8000000 in
theorem gvalues_loop (b : List UInt8) (w : World) (hb : b.length ≤ 1000) (hE : cvE b 0 1000 = 0) (n : Nat) (hV : cvV b 0 1000 = n) (hn : 0 < n) (hn2 : n ≤ 1000) :
    Calls Try.prog 15 #[.string ⟨b.toArray⟩] w fun e w' => ∃ A' c', e = .returned (.tuple #[.slice A' (vals b).1.length c', .int .i64 ((vals b).2 : Int)]) ∧ OwnR w' w.heap.size 22 A' (vals b).1.length c' ((vals b).1.map VN) ∧ Below w.heap.size w w' := by
  obtain ⟨R, hR⟩ : ∃ z, z = vals b := ⟨_, rfl⟩
  obtain ⟨L, hL⟩ : ∃ z, z = cvL b 0 1000 := ⟨_, rfl⟩
  have hLl : L.length ≤ 1000 := by rw [hL]; unfold cvL; simp only [if_true, List.length_drop]; omega
  obtain ⟨F, hF⟩ : ∃ z, z = n * 784931 := ⟨_, rfl⟩
  obtain ⟨l0, hl0⟩ : ∃ z, z = unp L := ⟨_, rfl⟩
  have hl0l : l0.length ≤ 8000 := by rw [hl0, unp_len]; omega
  obtain ⟨s, hs⟩ : ∃ z : ByteArray, z = ⟨b.toArray⟩ := ⟨_, rfl⟩
  obtain ⟨s1, hs1⟩ : ∃ z : ByteArray, z = ⟨L.toArray⟩ := ⟨_, rfl⟩
  obtain ⟨s2, hs2⟩ : ∃ z : ByteArray, z = tx l0 := ⟨_, rfl⟩
  have CC : Hid (∀ W, Calls Try.prog 39 #[.agg #[.string s, .int .i64 0], .int .u64 1000] W (Ret W (.tuple #[.agg #[.string s1, .int .i64 0], .int .u64 (n : Int)]))) := Lib.hid fun W => by
    have h := dcount_calls b 0 1000 (by omega) W
    rw [hE, hV, ← hL] at h
    rw [hs, hs1]; exact h
  have CA : Hid (∀ A c W, Rd W A L.length L → Calls Try.prog 40 #[.slice A L.length c] W (Ret W (.string s2))) := Lib.hid fun A c W h => by
    rw [hs2, hl0]; exact zall_calls A L.length c L W h hLl
  have HVR : Hid (∀ r, vgo F n l0 0 = r → R = if r.2.1 ≠ 0 then ([], r.2.1) else if cln r.2.2 then (r.1, 0) else ([], 3)) := Lib.hid fun r hr => by
    rw [hR]
    refine vals_loop b n r hE hV hn ?_
    rw [hF, hl0, hL] at hr
    exact hr
  have HS1 := Lib.hid hs1
  have HS2 := Lib.hid hs2
  have HLL : Hid (L.length ≤ 1000000) := Lib.hid (by omega)
  have HL0 := Lib.hid hl0l
  have hn0 : ¬ (n : Int) = 0 := by omega
  have u1 : IntKind.u64.wrap ((n : Int) * 784931) = (F : Int) := by rw [IntKind.wrap_u64]; omega
  have hFl : F ≤ 784931000 := by omega
  rw [← hR, ← hs]
  clear hR hL hLl hF hl0 hs hs1 hs2 hE hV hl0l
  go_enter Try.func15, Try.ntmps15
  go_wp2_with (first
    | (go_at_call 39; refine (CC.out _).mono ?_; rintro e' w1 ⟨rfl, d1⟩)
    | (go_at_call 40; refine (CA.out _ _ _ (by assumption)).mono ?_; rintro e' w10 ⟨rfl, d10⟩; have HB10 : Hid (Below w.heap.size w w10) := Lib.hid (below_more (below_more HB8.out d9) d10))
    | (refine at_cvX 9 27 _ ?_; refine wpList_cvX rfl _ rfl L (congrArg Value.string HS1.out) HLL.out ?_; intro A c w9 hr9 d9)
    | ((with_reducible refine at_store 75 (.tmp 4) (.tmp 17) ?_); refine wpList_store_blk rfl 75 (.tmp 4) (.tmp 17) rfl (w1.heap.size) zerosI [.string s1, .int .i64 0] 75 rfl rfl (Blk.new w1 _ _) rfl (inC_size [] 0) (by intro v hv; simp only [List.mem_cons, List.not_mem_nil, or_false] at hv; rcases hv with rfl | rfl <;> rfl) ?_; intro w8 hb8 ho8; have sc0 : w8.cell? ⟨w1.heap.size, 0, none⟩ = some (.string s1) := hb8.cell 0; have sc1 : w8.cell? ⟨w1.heap.size, 1, none⟩ = some (.int .i64 0) := hb8.cell 1; have HB8 : Hid (Below w.heap.size w w8) := Lib.hid (below_only (below_al d1 _) ho8 d1.size)))
  clear sc0 sc1 hb8 ho8 d1 d9 d10 hr9 HB8 CC CA
  go_loopw [9, 6, 8, 7] (fun iv sv av ov wr => ∃ (i a : Nat) (S : ByteArray) (l : List Bool) (A2 : Option Addr) (c2 : Nat) (V : List Nat), iv = .int .u64 (i : Int) ∧ sv = .string S ∧ av = .int .u64 (a : Int) ∧ ov = .slice A2 i c2 ∧ i ≤ n ∧ S = tx l ∧ l.length ≤ 8000 ∧ a ≤ F ∧ OwnR wr w.heap.size 22 A2 i c2 (V.map VN) ∧ vgo F n l0 0 = cmbG V (vgo F (n - i) l a) ∧ Below w.heap.size w wr) (fun iv _ _ _ _ => n - (intOf iv).toNat)
  case atStart => exact ⟨0, 0, s2, l0, none, 0, [], by first | rfl | go_num, rfl, by first | rfl | go_num, rfl, by omega, HS2.out, HL0.out, by omega, OwnR.nil _ _ _, by rw [cmbG_nil]; rfl, HB10.out⟩
  case round =>
    obtain ⟨i, a, S, l, A2, c2, V, rfl, rfl, rfl, rfl, hin, hS, hll, haF, hown, hvg, hbel⟩ := hrel
    obtain ⟨wo, hwo⟩ : ∃ x, x = wr := ⟨_, rfl⟩
    rw [← hwo] at hown hbel ⊢
    clear hwo
    have HOW := Lib.hid hown
    have HBL := Lib.hid hbel
    clear hown hbel
    by_cases hlt : i < n
    · have hlt' : (i : Int) < (n : Int) := by omega
      obtain ⟨k, hk⟩ : ∃ z, z = n - (i + 1) := ⟨_, rfl⟩
      rw [show n - i = k + 1 by omega] at hvg
      have HK := Lib.hid hk
      obtain ⟨e, he⟩ : ∃ z, z = gtE l 19 65536 := ⟨_, rfl⟩
      obtain ⟨y, hy⟩ : ∃ z, z = gtV l 19 65536 := ⟨_, rfl⟩
      obtain ⟨S2, hS2⟩ : ∃ z : ByteArray, z = tx (gtL l 19 65536) := ⟨_, rfl⟩
      have hgl := gtL_len l 19 65536
      have hy64 : y ≤ 40000000000 := by
        rw [hy]
        unfold gtV
        split
        · omega
        · have h1 := rnV_le l (hld 65536 65536)
          have h2 := btV_pow (rnL l (hld 65536 65536)) (hld 19 32)
          rw [show hld 65536 65536 = 65536 from by decide, show hld 19 32 = 19 from by decide] at *
          omega
      have CG : Hid (∀ W, Calls Try.prog 41 #[.string S, .int .i64 19, .int .i64 65536] W (Ret W (.tuple #[.string S2, .int .u64 (y : Int), .int .i64 (e : Int)]))) := Lib.hid fun W => by
        rw [hS, hS2, hy, he]; exact xget_calls l 19 65536 (by omega) W
      by_cases he0 : e = 0
      · have u2 : IntKind.u64.wrap ((a : Int) + (y : Int)) = ((a + y : Nat) : Int) := by rw [IntKind.wrap_u64]; omega
        obtain ⟨z, hz⟩ : ∃ z, z = a + y := ⟨_, rfl⟩
        rw [← hz] at u2
        have hE0 : gtE l 19 65536 = 0 := by rw [← he]; exact he0
        have hav : a + gtV l 19 65536 = z := by rw [hz, hy]
        by_cases hfar : F ≤ z
        · have hfar' : (F : Int) ≤ (z : Int) := by omega
          have HR : Hid (R = ([], 5)) := Lib.hid (by
            rw [HVR.out _ rfl, hvg, cmbG_far F k V l a hE0 (by omega)]; rfl)
          subst he0
          clear hvg he hy hS2 hgl hE0 hav hz hS
          go_wp2_with (first
            | (go_at_call 41; refine (CG.out _).mono ?_; rintro e' w3 ⟨rfl, d3⟩))
          go_ret2
          exact ⟨none, 0, by rw [HR.out]; rfl, by rw [HR.out]; exact OwnR.nil _ _ _, below_more HBL.out d3⟩
        · have hfar' : ¬ (F : Int) ≤ (z : Int) := by omega
          have HVG : Hid (vgo F n l0 0 = cmbG (V ++ [z]) (vgo F (n - (i + 1)) (gtL l 19 65536) z)) := Lib.hid (by
            rw [hvg, cmbG_step F k V l a hE0 (by omega), hav, hk])
          have HS2x := Lib.hid hS2
          have u3 : IntKind.u64.wrap ((i : Int) + 1) = ((i + 1 : Nat) : Int) := by rw [IntKind.wrap_u64]; omega
          subst he0
          clear hvg he hy hS2 hE0 hav hz hS
          go_wp2_with (first
            | (go_at_call 41; refine (CG.out _).mono ?_; rintro e' w3 ⟨rfl, d3⟩)
            | ((with_reducible refine at_bsX 35 1 #[(0, .tmp 57)] ?_); refine wpList_bsR rfl 35 22 (VN 0) (VN z) Try.underlying35 infoU rfl rfl (.tmp 57) rfl (by first | rfl | simp [Act.eval]) ?_; intro g w5 hb5 hg5 hl5 d5)
            | ((with_reducible refine at_appX 35 (.tmp 56) (.tmp 58) ?_); refine wpList_appR rfl 35 22 (VN 0) 8 Try.underlying35 infoUb rfl (by decide) (.tmp 56) (.tmp 58) rfl w.heap.size w (below_more (below_more HBL.out d3) d5) (Nat.le_refl _) A2 i c2 (V.map VN) (by first | rfl | simp [Act.eval]) ((HOW.out.up d3).up d5) _ 1 1 [VN z] (by first | rfl | simp [Act.eval]) hb5.rdR (fun u hu => by rw [List.mem_singleton.1 hu]; rfl) (by omega) ?_; intro A3 c3 w6 ho6 hf6 hB6))
          go_roundw
          case rel => exact ⟨i + 1, z, S2, gtL l 19 65536, A3, c3, V ++ [z], by first | rfl | go_num, rfl, rfl, rfl, by omega, HS2x.out, by omega, by omega, by rw [List.map_append]; exact ho6, HVG.out, hB6⟩
          case measure => simp [intOf]; omega
      · have he0' : ¬ (e : Int) = 0 := by omega
        have HR : Hid (R = ([], e)) := Lib.hid (by
          rw [HVR.out _ rfl, hvg, cmbG_bad F k V l a (by omega), ← he]
          show (if e ≠ 0 then _ else _) = _
          rw [if_pos he0])
        clear hvg he hy hS2 hgl hS
        go_wp2_with (first
          | (go_at_call 41; refine (CG.out _).mono ?_; rintro e' w3 ⟨rfl, d3⟩))
        go_ret2
        exact ⟨none, 0, by rw [HR.out]; rfl, by rw [HR.out]; exact OwnR.nil _ _ _, below_more HBL.out d3⟩
    · have hlt' : ¬ (i : Int) < (n : Int) := by omega
      have e : i = n := by omega
      subst e
      have HRR : Hid (R = if cln l then (V, 0) else ([], 3)) := Lib.hid (by
        rw [HVR.out _ rfl, hvg, Nat.sub_self]
        unfold cmbG
        simp [vgo])
      have hVl : V.length = i := by have := HOW.out.1; simpa using this
      have HVL := Lib.hid hVl
      have hsz : S.size = l.length := by rw [hS, tx_size]
      obtain ⟨m, hm⟩ : ∃ z, z = l.length := ⟨_, rfl⟩
      rw [← hm] at hsz
      by_cases h8 : 8 ≤ m
      · have h8' : (8 : Int) ≤ (m : Int) := by omega
        have HR : Hid (R = ([], 3)) := Lib.hid (by
          rw [HRR.out, if_neg]
          unfold cln
          rw [decide_eq_false (by omega)]
          simp)
        clear hvg hS hm hVl
        go_wp2
        go_ret2
        exact ⟨none, 0, by rw [HR.out]; rfl, by rw [HR.out]; exact OwnR.nil _ _ _, HBL.out⟩
      · have h8' : ¬ (8 : Int) ≤ (m : Int) := by omega
        obtain ⟨q, hq⟩ : ∃ z, z = num l := ⟨_, rfl⟩
        have CN : Hid (∀ W, Calls Try.prog 42 #[.string S] W (Ret W (.int .u64 (q : Int)))) := Lib.hid fun W => by rw [hS, hq]; exact znum_calls l (by omega) W
        by_cases hq0 : q = 0
        · have HR : Hid (R = (V, 0)) := Lib.hid (by
            rw [HRR.out, if_pos]
            unfold cln
            rw [decide_eq_true (by omega), ← hq, decide_eq_true hq0]
            rfl)
          subst hq0
          clear hvg hS hm hVl hq
          go_wp2_with (go_at_call 42; refine (CN.out _).mono ?_; rintro e' w3 ⟨rfl, d3⟩)
          go_ret2
          exact ⟨A2, c2, by rw [HR.out]; show _ = Ending.returned (.tuple #[.slice A2 V.length c2, _]); rw [HVL.out]; rfl, by rw [HR.out]; show OwnR _ _ _ A2 V.length c2 _; rw [HVL.out]; exact HOW.out.up d3, below_more HBL.out d3⟩
        · have hq0' : ¬ (q : Int) = 0 := by omega
          have HR : Hid (R = ([], 3)) := Lib.hid (by
            rw [HRR.out, if_neg]
            unfold cln
            rw [← hq, decide_eq_false hq0]
            simp)
          clear hvg hS hm hVl hq
          go_wp2_with (go_at_call 42; refine (CN.out _).mono ?_; rintro e' w3 ⟨rfl, d3⟩)
          go_ret2
          exact ⟨none, 0, by rw [HR.out]; rfl, by rw [HR.out]; exact OwnR.nil _ _ _, below_more HBL.out d3⟩
end Go.Proofs.Ytplnmjdafchjbaa

/- The document's own answers of layer 13: a filter's numbers, whatever the bytes. -/
namespace Go.Proofs.Ytplnmjdafchjbaa
open Go.RowKit
set_option linter.unusedVariables false
set_option linter.unusedSimpArgs false

set_option maxRecDepth 100000 in
theorem gvalues_calls (b : List UInt8) (w : World) (hb : b.length ≤ 1000) :
    Calls Try.prog 15 #[.string ⟨b.toArray⟩] w fun e w' => ∃ A' c', e = .returned (.tuple #[.slice A' (vals b).1.length c', .int .i64 ((vals b).2 : Int)]) ∧ OwnR w' w.heap.size 22 A' (vals b).1.length c' ((vals b).1.map VN) ∧ Below w.heap.size w w' := by
  by_cases hE : cvE b 0 1000 = 0
  · by_cases hV : cvV b 0 1000 = 0
    · have e1 : vals b = ([], if (cvL b 0 1000).length > 0 then 3 else 0) := by
        unfold vals
        rw [if_neg (by omega), if_pos hV]
        split <;> rfl
      refine (gvalues_zero b w hb hE hV).mono ?_
      rintro e w' ⟨rfl, h2⟩
      rw [e1]
      exact ⟨none, 0, rfl, OwnR.nil _ _ _, h2⟩
    · have h1 : cvV b 0 1000 ≤ 1000 := by
        unfold cvV
        rw [if_pos rfl]
        exact (first_le b 1000).2.1
      exact gvalues_loop b w hb hE _ rfl (by omega) h1
  · have e1 : vals b = ([], cvE b 0 1000) := by
      unfold vals
      rw [if_pos hE]
    refine (gvalues_err b w hb hE).mono ?_
    rintro e w' ⟨rfl, h2⟩
    rw [e1]
    exact ⟨none, 0, rfl, OwnR.nil _ _ _, h2⟩
end Go.Proofs.Ytplnmjdafchjbaa

/- What package gcs is to answer; the contracts of layer 13's own small and texts. -/
namespace Go.Proofs.Ytplnmjdafchjbaa
open Go.RowKit
set_option linter.unusedVariables false
set_option linter.unusedSimpArgs false

set_option maxRecDepth 100000 in
theorem vals_err (b : List UInt8) (h : (vals b).2 ≠ 0) : (vals b).1 = [] := by
  unfold vals at h ⊢
  split
  · rfl
  · rename_i h1
    rw [if_neg h1] at h
    split
    · split <;> rfl
    · rename_i h2
      rw [if_neg h2] at h
      split
      · rfl
      · rename_i h3
        rw [if_neg h3] at h
        split
        · rename_i h4
          rw [if_pos h4] at h
          exact absurd rfl h
        · rfl
set_option maxRecDepth 100000 in
theorem hit_nil (k l : Nat) (t : List UInt8) : hit k l [] t = false := rfl
set_option maxRecDepth 100000 in
theorem hits_nil (k l : Nat) (L : List (List UInt8)) : hits k l [] L = [] := by
  unfold hits
  rw [List.filter_eq_nil_iff]
  intro i _
  rw [hit_nil]
  simp
/-- A key by value. -/
def KY (k l : Nat) : Value := .agg #[.int .u64 (k : Int), .int .u64 (l : Int)]

structure GcsOk : Prop where
  build : ∀ (W : World) (k l : Nat) (A : Option Addr) (n c : Nat) (L : List (List UInt8)), k < 2 ^ 64 → l < 2 ^ 64 → RdM W A n L → n ≤ c → c ≤ maxLen → n ≤ 2000 → (∀ t ∈ L, t.length ≤ 1000) → (once L).length ≤ 1000 →
    Calls Try.prog 11 #[.agg #[.int .u64 (k : Int), .int .u64 (l : Int)], .slice A n c] W fun e w' => ∃ A' n' c', e = .returned (.tuple #[.slice A' n' c', .int .i64 0]) ∧ RdF w' (fun i => i < W.heap.size) A' n' (filt k l L) ∧ n' ≤ c' ∧ c' ≤ maxLen ∧ Below W.heap.size W w'
  buildB : ∀ (W : World) (k l : Nat) (A : Option Addr) (n c : Nat) (L : List (List UInt8)), k < 2 ^ 64 → l < 2 ^ 64 → RdM W A n L → n ≤ c → c ≤ maxLen → n ≤ 2000 → (∀ t ∈ L, t.length ≤ 1000) → 1000 < (once L).length →
    Calls Try.prog 11 #[.agg #[.int .u64 (k : Int), .int .u64 (l : Int)], .slice A n c] W fun e w' => ∃ A' c', e = .returned (.tuple #[.slice A' 0 c', .int .i64 4]) ∧ Below W.heap.size W w'
  values : ∀ (W : World) (A : Option Addr) (n c : Nat) (b : List UInt8), Rd W A n b → n ≤ c → c ≤ maxLen → n ≤ 10000 →
    Calls Try.prog 14 #[.slice A n c] W fun e w' => ∃ A' c', e = .returned (.tuple #[.slice A' (vals b).1.length c', .int .i64 ((vals b).2 : Int)]) ∧ RdR w' A' (vals b).1.length ((vals b).1.map VN) ∧ Below W.heap.size W w'
  match_ : ∀ (W : World) (k l : Nat) (A : Option Addr) (n c : Nat) (b : List UInt8) (X : Option Addr) (m d : Nat) (t : List UInt8), k < 2 ^ 64 → l < 2 ^ 64 → Rd W A n b → n ≤ c → c ≤ maxLen → n ≤ 10000 → Rd W X m t → m ≤ d → d ≤ maxLen → m ≤ 1000 →
    Calls Try.prog 16 #[.agg #[.int .u64 (k : Int), .int .u64 (l : Int)], .slice A n c, .slice X m d] W (Ret W (.tuple #[.bool (hit k l (vals b).1 t), .int .i64 ((vals b).2 : Int)]))
  any : ∀ (W : World) (k l : Nat) (A : Option Addr) (n c : Nat) (b : List UInt8) (X : Option Addr) (m d : Nat) (L : List (List UInt8)), k < 2 ^ 64 → l < 2 ^ 64 → Rd W A n b → n ≤ c → c ≤ maxLen → n ≤ 10000 → RdM W X m L → m ≤ d → d ≤ maxLen → m ≤ 2000 → (∀ t ∈ L, t.length ≤ 1000) →
    Calls Try.prog 17 #[.agg #[.int .u64 (k : Int), .int .u64 (l : Int)], .slice A n c, .slice X m d] W fun e w' => ∃ A' c', e = .returned (.tuple #[.slice A' (hits k l (vals b).1 L).length c', .int .i64 ((vals b).2 : Int)]) ∧ RdR w' A' (hits k l (vals b).1 L).length ((hits k l (vals b).1 L).map VI) ∧ Below W.heap.size W w'

set_option maxRecDepth 100000 in
theorem GcsOk.buildR (K : GcsOk) (W : World) (k l : Nat) (A : Option Addr) (n c : Nat) (L : List (List UInt8)) (h1 : k < 2 ^ 64) (h2 : l < 2 ^ 64) (h3 : RdM W A n L) (h4 : n ≤ c) (h5 : c ≤ maxLen) (h6 : n ≤ 2000) (h7 : ∀ t ∈ L, t.length ≤ 1000) (h8 : (once L).length ≤ 1000) :
    Calls Try.prog 11 #[.agg #[.int .u64 (k : Int), .int .u64 (l : Int)], .slice A n c] W fun e w' => ∃ A' n' c', e = .returned (.tuple #[.slice A' n' c', .int .i64 0]) ∧ Rd w' A' n' (filt k l L) ∧ n' ≤ c' ∧ c' ≤ maxLen ∧ Below W.heap.size W w' := by
  refine (K.build W k l A n c L h1 h2 h3 h4 h5 h6 h7 h8).mono ?_
  rintro e w' ⟨A', n', c', k1, k2, k3⟩
  exact ⟨A', n', c', k1, k2.rd, k3⟩
def sml (L : List (List UInt8)) : Bool := decide (L.length ≤ 20) && L.all fun t => decide (t.length ≤ 100)
set_option maxRecDepth 100000 in
theorem sml_yes {L : List (List UInt8)} (h : sml L = true) : L.length ≤ 20 ∧ ∀ t ∈ L, t.length ≤ 100 := by
  unfold sml at h
  rw [Bool.and_eq_true, List.all_eq_true] at h
  exact ⟨by simpa using h.1, fun t ht => by simpa using h.2 t ht⟩
set_option maxRecDepth 100000 in
theorem sml_big {L : List (List UInt8)} (h : 20 < L.length) : sml L = false := by
  unfold sml
  rw [decide_eq_false (by omega)]
  rfl
set_option maxRecDepth 100000 in
theorem sml_long {L : List (List UInt8)} (t : List UInt8) (h : t ∈ L) (h1 : 100 < t.length) : sml L = false := by
  unfold sml
  rw [Bool.and_eq_false_iff]
  right
  rw [List.all_eq_false]
  exact ⟨t, h, by simp; omega⟩
set_option maxRecDepth 100000 in
theorem sml_so {L : List (List UInt8)} (h : L.length ≤ 20) (h1 : ∀ j (hj : j < L.length), L[j].length ≤ 100) : sml L = true := by
  unfold sml
  rw [decide_eq_true h, Bool.true_and, List.all_eq_true]
  intro t ht
  obtain ⟨j, hj, rfl⟩ := List.getElem_of_mem ht
  simpa using h1 j hj
set_option maxRecDepth 100000 in
set_option maxHeartbeats 2000000 in
theorem gsmall_calls (A : Option Addr) (n c : Nat) (L : List (List UInt8)) (w : World) (hr : RdM w A n L) (hn : n ≤ maxLen) :
    Calls Try.prog 9 #[.slice A n c] w (Ret w (.bool (sml L))) := by
  unfold maxLen at hn
  have hl := hr.len
  by_cases h20 : 20 < n
  · have h20' : (20 : Int) < (n : Int) := by omega
    rw [sml_big (by omega)]
    clear hr hl
    go_enter Try.func9, Try.ntmps9
    go_wp2
    go_ret
    exact ⟨rfl, Below.refl _ _⟩
  · have h20' : ¬ (20 : Int) < (n : Int) := by omega
    have HR := Lib.hid hr
    have HL := Lib.hid hl
    clear hr hl
    go_enter Try.func9, Try.ntmps9
    go_wp2
    go_loopw [10] (fun cv wr => ∃ (i : Nat), i ≤ n ∧ cv = .int .i64 (i : Int) ∧ (∀ j (hj : j < L.length), j < i → L[j].length ≤ 100) ∧ wr = w) (fun cv _ => n - (intOf cv).toNat)
    case atStart => exact ⟨0, Nat.zero_le _, rfl, fun j _ hj => absurd hj (by omega), rfl⟩
    case round =>
      obtain ⟨i, hin, rfl, hall, rfl⟩ := hrel
      by_cases hlt : i < n
      · have hlt' : (i : Int) < (n : Int) := by omega
        obtain ⟨b, off, A', m, c', hl, rfl, sc, h1, h2, h3⟩ := HR.out.at_ hlt
        have hm := h3.len
        unfold maxLen at h2
        by_cases h100 : 100 < m
        · have h100' : (100 : Int) < (m : Int) := by omega
          have HS : Hid (sml L = false) := Lib.hid (sml_long _ (List.getElem_mem hl) (by omega))
          clear h3 hall hm
          go_wp2
          go_ret
          rw [HS.out]
          exact ⟨rfl, Below.refl _ _⟩
        · have h100' : ¬ (100 : Int) < (m : Int) := by omega
          have HA : Hid (∀ j (hj : j < L.length), j < i + 1 → L[j].length ≤ 100) := Lib.hid fun j hj hji => by
            rcases Nat.lt_or_ge j i with h | h
            · exact hall j hj h
            · have e : j = i := by omega
              subst e
              omega
          clear h3 hall hm
          go_wp2
          go_roundw
          case rel => exact ⟨i + 1, by omega, by go_num, HA.out, by first | rfl | trivial⟩
          case measure => simp [intOf]; omega
      · have hlt' : ¬ (i : Int) < (n : Int) := by omega
        have HS : Hid (sml L = true) := Lib.hid (sml_so (by rw [HL.out]; omega) fun j hj => hall j hj (by have := HL.out; omega))
        clear hall
        go_wp2
        go_ret
        rw [HS.out]
        exact ⟨rfl, Below.refl _ _⟩
set_option maxRecDepth 100000 in
set_option maxHeartbeats 2000000 in
theorem gtexts_calls (A : Option Addr) (n c : Nat) (L : List (List UInt8)) (w : World) (hr : RdM w A n L) (hn : n ≤ 2000) :
    Calls Try.prog 13 #[.slice A n c] w fun e w' => ∃ A' c', e = .returned (.slice A' n c') ∧ OwnR w' w.heap.size 9 A' n c' (L.map VT) ∧ Below w.heap.size w w' := by
  have HR := Lib.hid hr
  have HL := Lib.hid hr.len
  clear hr
  go_enter Try.func13, Try.ntmps13
  go_wp2
  go_loopw [8, 3] (fun cv ov wr => ∃ (i : Nat) (A1 : Option Addr) (c1 : Nat), i ≤ n ∧ cv = .int .i64 (i : Int) ∧ ov = .slice A1 i c1 ∧ OwnR wr w.heap.size 9 A1 i c1 ((L.take i).map VT) ∧ Below w.heap.size w wr) (fun cv _ _ => n - (intOf cv).toNat)
  case atStart => exact ⟨0, none, 0, Nat.zero_le _, rfl, rfl, OwnR.nil _ _ _, Below.refl _ _⟩
  case round =>
    obtain ⟨i, A1, c1, hin, rfl, rfl, hown, hbel⟩ := hrel
    by_cases hlt : i < n
    · have hlt' : (i : Int) < (n : Int) := by omega
      obtain ⟨b, off, A', m, c', hl, rfl, sc0, h1, h2, h3⟩ := HR.out.at_ hlt
      have hb : b < w.heap.size := by
        obtain ⟨b', off', e, hb', _⟩ := HR.out.2 (by omega)
        injection e with e
        injection e with e1 e2 _
        omega
      have sc := (hbel.cell (p := ⟨b, off + i, none⟩) hb).trans sc0
      have hcv0 := conv8 wr A' m c' _ (h3.below hbel)
      have HN : Hid ((L.take (i + 1)).map VT = (L.take i).map VT ++ [VT L[i]]) := Lib.hid (by rw [List.take_succ_eq_append_getElem hl, List.map_append]; rfl)
      obtain ⟨S, hS⟩ : ∃ z : ByteArray, z = ⟨L[i].toArray⟩ := ⟨_, rfl⟩
      have hcv : (convert 27 9 (.slice A' m c')).run Try.prog wr = .ok (.string S) wr := by rw [hS]; exact hcv0
      have HV : Hid (VT L[i] = .string S) := Lib.hid (by rw [hS]; rfl)
      rw [HV.out] at HN
      have HO := Lib.hid hown
      have HB := Lib.hid hbel
      unfold maxLen at h2
      clear sc0 hcv0 h3 hown hbel hb hS
      go_wp2_with (first
        | ((with_reducible refine at_bsX 32 1 #[(0, .tmp 14)] ?_); refine wpList_bsR rfl 32 9 (VT []) (.string S) Try.underlying32 infoT rfl rfl (.tmp 14) rfl (by first | rfl | simp [Act.eval]) ?_; intro g w1 hb1 hg1 hl1 hB1)
        | ((with_reducible refine at_appX 32 (.tmp 12) (.tmp 15) ?_); refine wpList_appR rfl 32 9 (VT []) 16 Try.underlying32 infoTb rfl (by decide) (.tmp 12) (.tmp 15) rfl w.heap.size w (below_more HB.out hB1) (Nat.le_refl _) A1 i c1 ((L.take i).map VT) (by first | rfl | simp [Act.eval]) (HO.out.up hB1) _ 1 1 [.string S] (by first | rfl | simp [Act.eval]) hb1.rdR (fun u hu => by rw [List.mem_singleton.1 hu]; rfl) (by omega) ?_; intro A3 c3 w2 ho2 hf2 hB2))
      go_roundw
      case rel => exact ⟨i + 1, A3, c3, by omega, by go_num, rfl, by rw [HN.out]; exact ho2, hB2⟩
      case measure => simp [intOf]; omega
    · have hlt' : ¬ (i : Int) < (n : Int) := by omega
      have e : i = n := by omega
      subst e
      rw [List.take_of_length_le (by rw [HL.out]; omega)] at hown
      have HO := Lib.hid (And.intro hown hbel)
      clear hown hbel
      go_wp2
      go_ret
      exact ⟨A1, c1, rfl, HO.out⟩
end Go.Proofs.Ytplnmjdafchjbaa

/- Plain mathematics of layer 13: a filter's numbers rise, and are not many. -/
namespace Go.Proofs.Ytplnmjdafchjbaa
open Go.RowKit
set_option linter.unusedVariables false

set_option maxRecDepth 100000 in
theorem vgo_asc (F : Nat) : ∀ (k : Nat) (s : List Bool) (a : Nat), (a :: (vgo F k s a).1).Pairwise (· ≤ ·)
  | 0, s, a => List.pairwise_singleton _ _
  | k + 1, s, a => by
    unfold vgo
    split
    · exact List.pairwise_singleton _ _
    · split
      · exact List.pairwise_singleton _ _
      · split
        · exact List.pairwise_singleton _ _
        · have h := vgo_asc F k (gtL s 19 65536) (a + gtV s 19 65536)
          show (a :: (a + gtV s 19 65536) :: _).Pairwise _
          rw [List.pairwise_cons]
          refine ⟨fun x hx => ?_, h⟩
          rw [List.pairwise_cons] at h
          rcases List.mem_cons.1 hx with rfl | hx
          · omega
          · have := h.1 x hx; omega
set_option maxRecDepth 100000 in
theorem vals_asc (b : List UInt8) : (vals b).1.Pairwise (· ≤ ·) := by
  unfold vals
  split
  · exact List.Pairwise.nil
  · split
    · split <;> exact List.Pairwise.nil
    · split
      · exact List.Pairwise.nil
      · split
        · exact (List.pairwise_cons.1 (vgo_asc _ _ _ 0)).2
        · exact List.Pairwise.nil
set_option maxRecDepth 100000 in
theorem vgo_len (F : Nat) : ∀ (k : Nat) (s : List Bool) (a : Nat), (vgo F k s a).1.length ≤ k
  | 0, s, a => Nat.le_refl _
  | k + 1, s, a => by
    unfold vgo
    split
    · exact Nat.zero_le _
    · split
      · exact Nat.zero_le _
      · split
        · exact Nat.zero_le _
        · exact Nat.succ_le_succ (vgo_len F k _ _)
set_option maxRecDepth 100000 in
theorem vals_len (b : List UInt8) : (vals b).1.length ≤ 1000 := by
  have h1 := cvV_le b 0 1000
  unfold vals
  split
  · exact Nat.zero_le _
  · split
    · split <;> exact Nat.zero_le _
    · split
      · exact Nat.zero_le _
      · split
        · exact Nat.le_trans (vgo_len _ _ _ _) h1
        · exact Nat.zero_le _
set_option maxRecDepth 100000 in
theorem vgo_lt (F : Nat) : ∀ (k : Nat) (s : List Bool) (a : Nat), ∀ x ∈ (vgo F k s a).1, x < F
  | 0, s, a, x, h => by simp [vgo] at h
  | k + 1, s, a, x, h => by
    unfold vgo at h
    split at h
    · simp at h
    · split at h
      · simp at h
      · rename_i h2
        split at h
        · simp at h
        · rcases List.mem_cons.1 h with rfl | h
          · omega
          · exact vgo_lt F k _ _ x h
set_option maxRecDepth 100000 in
theorem vals_64 (b : List UInt8) : ∀ x ∈ (vals b).1, x < 18446744073709551616 := by
  have h1 := cvV_le b 0 1000
  intro x hx
  unfold vals at hx
  split at hx
  · simp at hx
  · split at hx
    · split at hx <;> simp at hx
    · split at hx
      · simp at hx
      · split at hx
        · have := vgo_lt _ _ _ _ x hx
          omega
        · simp at hx
set_option maxRecDepth 100000 in
theorem hit_dec (k l : Nat) (N : List Nat) (t : List UInt8) : hit k l N t = decide (numb k l N.length t ∈ N) := by
  unfold hit amn
  rw [List.take_length]
  by_cases h : numb k l N.length t ∈ N
  · rw [decide_eq_true h, List.any_eq_true]
    exact ⟨_, h, by simp⟩
  · rw [decide_eq_false h, List.any_eq_false]
    intro x hx
    simp
    intro e
    exact h (e ▸ hx)
end Go.Proofs.Ytplnmjdafchjbaa
