/- Merged texts: GcsS. -/
import Derived.Test.YtplnmjdafchjbaaMbn
import Derived.Deep.RegionHeld3
import Derived.Deep.CutRange
import Derived.Deep.DeepCutAuto
/- The walk of GcsAny, over what package gcs is to answer. -/
namespace Go.Proofs.Ytplnmjdafchjbaa
open Go.RowKit
set_option linter.unusedVariables false
set_option linter.unusedSimpArgs false
set_option maxRecDepth 100000 in
theorem hits_eq (k l : Nat) (N : List Nat) (L : List (List UInt8)) : hits k l N L = hitsT k l N L L.length := rfl
set_option maxRecDepth 100000 in
theorem hitsT_pre (k l : Nat) (N : List Nat) (L : List (List UInt8)) (i n : Nat) (h : i ≤ n) : hitsT k l N L i <+: hitsT k l N L n := by
  obtain ⟨d, rfl⟩ : ∃ d, n = i + d := ⟨n - i, by omega⟩
  unfold hitsT
  rw [List.range_add, List.filter_append]
  exact List.prefix_append _ _
set_option maxRecDepth 100000 in
theorem hits_at (k l : Nat) (N : List Nat) (L : List (List UInt8)) (i : Nat) (s : List UInt8) (h : L[i]? = some s) (hh : hit k l N s = true) :
    (hits k l N L)[(hitsT k l N L i).length]? = some i ∧ (hitsT k l N L (i + 1)).length = (hitsT k l N L i).length + 1 := by
  have e := hitsT_succ k l N L i s h
  rw [if_pos hh] at e
  have hi := (List.getElem?_eq_some_iff.1 h).1
  obtain ⟨r, hr⟩ := hitsT_pre k l N L (i + 1) L.length hi
  refine ⟨?_, by rw [e]; simp⟩
  rw [hits_eq, ← hr, e, List.append_assoc, List.getElem?_append_right (Nat.le_refl _)]
  simp
set_option maxRecDepth 100000 in
theorem hits_no (k l : Nat) (N : List Nat) (L : List (List UInt8)) (i : Nat) (s : List UInt8) (h : L[i]? = some s) (hh : hit k l N s = false) :
    (∀ j (hj : j < (hits k l N L).length), (hits k l N L)[j] ≠ i) ∧ (hitsT k l N L (i + 1)).length = (hitsT k l N L i).length := by
  have e := hitsT_succ k l N L i s h
  rw [if_neg (by rw [hh]; simp)] at e
  refine ⟨fun j hj he => ?_, by rw [e]⟩
  have hm : i ∈ hits k l N L := he ▸ List.getElem_mem hj
  unfold hits at hm
  rw [List.mem_filter, List.getD_eq_getElem?_getD, h] at hm
  simp [hh] at hm
set_option maxRecDepth 100000 in
theorem hitsT_le (k l : Nat) (N : List Nat) (L : List (List UInt8)) (i : Nat) (h : i ≤ L.length) : (hitsT k l N L i).length ≤ (hits k l N L).length := by
  obtain ⟨r, hr⟩ := hitsT_pre k l N L i L.length h
  rw [hits_eq, ← hr]
  simp
set_option maxRecDepth 100000 in
set_option maxHeartbeats 8000000 in
theorem gcsAny_walk (K : GcsOk) (k l : Nat) (hk64 : k < 2 ^ 64) (hl64 : l < 2 ^ 64) (A : Option Addr) (n c : Nat) (b : List UInt8) (X : Option Addr) (m d : Nat) (L : List (List UInt8)) (w : World) (v1 : Rd w A n b ∧ n ≤ c ∧ c ≤ maxLen) (w1 : RdM w X m L ∧ m ≤ d ∧ d ≤ maxLen) : Calls Try.prog 6 #[.agg #[.int .u64 (k : Int), .int .u64 (l : Int)], .slice A n c, .slice X m d] w (Ret w (.bool true)) := by
  obtain ⟨hr, hnc, hcm⟩ := v1
  obtain ⟨hx, hmd, hdm⟩ := w1
  have hbl := hr.len
  have hln := hx.len
  have hk0 : Blk (w.alloc (.cells #[.int .u64 (k : Int), .int .u64 (l : Int)] 23)) w.heap.size [.int .u64 (k : Int), .int .u64 (l : Int)] 23 := Blk.new w _ _
  obtain ⟨w0, hw0⟩ : ∃ z, z = w.alloc (.cells #[.int .u64 (k : Int), .int .u64 (l : Int)] 23) := ⟨_, rfl⟩
  have hB0 : Below w.heap.size w w0 := by rw [hw0]; exact below_al (Below.refl _ w) _
  have hs0 : w0.heap.size = w.heap.size + 1 := by rw [hw0]; simp
  rw [← hw0] at hk0
  have HW0 := Lib.hid hw0
  have HB0 := Lib.hid hB0
  have hr0 : Rd w0 A n b := hr.below hB0
  have hx0 : RdM w0 X m L := hx.below hB0
  have CS : Hid (∀ W, Below w0.heap.size w0 W → Calls Try.prog 9 #[.slice X m d] W (Ret W (.bool (sml L)))) := Lib.hid fun W hb => gsmall_calls X m d L W (hx0.below hb) (by omega)
  have CA : Hid (∀ W, Calls Try.prog 10 #[] W (Ret W (.bool true))) := Lib.hid fun W => awake13_calls K W
  have hcm' := hcm
  unfold maxLen at hcm'
  by_cases hs : sml L = false
  · rw [hs] at CS
    clear hr hr0 hx hx0 hk0 hw0 hB0 K
    go_enter Try.func6, Try.ntmps6
    go_upto_region 1 with fail
    rw [← HW0.out]
    go_wp2_with (first
      | (go_at_call 9; refine (CS.out _ (Below.refl _ _)).mono ?_; rintro e' x1 ⟨rfl, hB1⟩)
      | (go_at_call 10; refine (CA.out _).mono ?_; rintro e' x2 ⟨rfl, hB2⟩))
    go_ret
    exact ⟨rfl, below_more HB0.out (below_more hB1 hB2)⟩
  have hs : sml L = true := by simpa using hs
  obtain ⟨h20, hi100⟩ := sml_yes hs
  have hm20 : m ≤ 20 := by omega
  rw [hs] at CS
  by_cases h100 : 100 < n
  · have h100t : (100 : Int) < (n : Int) := by omega
    clear hr hr0 hx hx0 hk0 hw0 hB0 K hi100
    go_enter Try.func6, Try.ntmps6
    go_upto_region 1 with fail
    rw [← HW0.out]
    go_wp2_with (first
      | (go_at_call 9; refine (CS.out _ (Below.refl _ _)).mono ?_; rintro e' x1 ⟨rfl, hB1⟩)
      | (go_at_call 10; refine (CA.out _).mono ?_; rintro e' x2 ⟨rfl, hB2⟩))
    go_ret
    exact ⟨rfl, below_more HB0.out (below_more hB1 hB2)⟩
  have h100' : ¬ (100 : Int) < (n : Int) := by omega
  obtain ⟨N, hN⟩ : ∃ z, z = (vals b).1 := ⟨_, rfl⟩
  obtain ⟨p0, hp0⟩ : ∃ z, z = N.length := ⟨_, rfl⟩
  obtain ⟨f, hf⟩ : ∃ z, z = (vals b).2 := ⟨_, rfl⟩
  obtain ⟨s, hs'⟩ : ∃ z : ByteArray, z = ⟨b.toArray⟩ := ⟨_, rfl⟩
  obtain ⟨q, hq⟩ : ∃ z, z = (hits k l N L).length := ⟨_, rfl⟩
  have hp0b : p0 ≤ 1000 := by rw [hp0, hN]; exact vals_len b
  have hqb : q ≤ 20 := by
    have := hitsT_len k l N L L.length
    rw [← hits_eq, ← hq] at this
    omega
  have CG : Hid (∀ W, Below w0.heap.size w0 W → Calls Try.prog 17 #[.agg #[.int .u64 (k : Int), .int .u64 (l : Int)], .slice A n c, .slice X m d] W fun e w' => ∃ A' c', e = .returned (.tuple #[.slice A' q c', .int .i64 (f : Int)]) ∧ RdR w' A' q ((hits k l N L).map VI) ∧ Below W.heap.size W w') := Lib.hid fun W hb => by
    rw [hq, hN, hf]
    exact K.any W k l A n c b X m d L hk64 hl64 (hr0.below hb) hnc hcm (by omega) (hx0.below hb) hmd hdm (by omega) (fun t ht => by have := hi100 t ht; omega)
  have CR : Hid (∀ W, Calls Try.prog 15 #[.string s] W fun e w' => ∃ A' c', e = .returned (.tuple #[.slice A' p0 c', .int .i64 (f : Int)]) ∧ RdR w' A' p0 (N.map VN) ∧ Below W.heap.size W w') := Lib.hid fun W => by
    rw [hp0, hN, hf, hs']
    refine (gvalues_calls b W (by omega)).mono ?_
    rintro e w' ⟨A', c', h1, h2, h3⟩
    exact ⟨A', c', h1, h2.rd, h3⟩
  have CM : Hid (∀ W X' mx dx t, Below w0.heap.size w0 W → Rd W X' mx t → mx ≤ dx → dx ≤ maxLen → t ∈ L → Calls Try.prog 16 #[.agg #[.int .u64 (k : Int), .int .u64 (l : Int)], .slice A n c, .slice X' mx dx] W (Ret W (.tuple #[.bool (hit k l N t), .int .i64 (f : Int)]))) := Lib.hid fun W X' mx dx t hb h1 h2 h3 ht => by
    rw [hN, hf]
    exact K.match_ W k l A n c b X' mx dx t hk64 hl64 (hr0.below hb) hnc hcm (by omega) h1 h2 h3 (by have := h1.len; have := hi100 t ht; omega)
  have CN : Hid (∀ W, Below w0.heap.size w0 W → f ≠ 0 → Calls Try.prog 16 #[.agg #[.int .u64 (k : Int), .int .u64 (l : Int)], .slice A n c, .slice none 0 0] W (Ret W (.tuple #[.bool false, .int .i64 (f : Int)]))) := Lib.hid fun W hb h0 => by
    have h := K.match_ W k l A n c b none 0 0 [] hk64 hl64 (hr0.below hb) hnc hcm (by omega) (Rd.nil _ _) (by omega) (by unfold maxLen; omega) (by omega)
    rw [vals_err b (by rw [← hf]; exact h0), hit_nil, ← hf] at h
    exact h
  have HQ0 : Hid (f ≠ 0 → q = 0) := Lib.hid fun h0 => by
    rw [hq, hN, vals_err b (by rw [← hf]; exact h0), hits_nil]
    rfl
  have CT : Hid (∀ W, Below w0.heap.size w0 W → Calls Try.prog 13 #[.slice X m d] W fun e w' => ∃ A' c', e = .returned (.slice A' m c') ∧ OwnR w' W.heap.size 9 A' m c' (L.map VT) ∧ Below W.heap.size W w') := Lib.hid fun W hb => gtexts_calls X m d L W (hx0.below hb) (by omega)
  have CW : Hid (∀ W A' c', RdR W A' p0 (N.map VN) → ∀ A2 c2, RdR W A2 m (L.map VT) → Calls Try.prog 18 #[.agg #[.int .u64 (k : Int), .int .u64 (l : Int)], .slice A' p0 c', .slice A2 m c2] W fun e w' => ∃ A3 c3, e = .returned (.slice A3 q c3) ∧ RdR w' A3 q ((hits k l N L).map VI) ∧ Below W.heap.size W w') := Lib.hid fun W A' c' h1 A2 c2 h2 => by
    rw [hq]
    refine (gany_calls k l A' p0 c' N A2 m c2 L W hk64 hl64 h1 h2 (by omega) (by omega) (fun t ht => by have := hi100 t ht; omega)).mono ?_
    rintro e w' ⟨A3, c3, h3, h4, h5⟩
    exact ⟨A3, c3, h3, h4.rd, h5⟩
  have hcv0 : ∀ W, Below w0.heap.size w0 W → (convert 27 9 (.slice A n c)).run Try.prog W = .ok (.string s) W := fun W hb => by rw [hs']; exact conv8 W A n c b (hr0.below hb)
  have HCV := Lib.hid hcv0
  have HX0 := Lib.hid hx0
  have HLN := Lib.hid hln
  have HQ := Lib.hid hq
  unfold maxLen at hdm
  have hcm := hcm'
  clear hr hr0 hx hx0 hB0 hs hN hp0 hf hs' hq hcv0 h20 hi100 K hw0 hln hbl hcm'
  go_enter Try.func6, Try.ntmps6
  go_upto_region 1 with fail
  rw [← HW0.out]
  go_upto_region 3 with (first
    | (go_at_call 9; refine (CS.out _ (Below.refl _ _)).mono ?_; rintro e' x1 ⟨rfl, hB1⟩))
  have hk := blk_upG hk0 hB1
  go_upto_region 4 with (first
    | ((with_reducible refine at_load 23 (.tmp 3) ?_); refine wpList_load_mid rfl 23 (.tmp 3) rfl w.heap.size 0 (by first | rfl | (simp [Act.eval]; done)) [.int .u64 (k : Int), .int .u64 (l : Int)] _ (Blk.range hk) Try.underlying23 rfl (by kernel_rfl) ?_)
    | (go_at_call 17; refine (CG.out _ hB1).mono ?_; rintro e' x2 ⟨A5, c5, rfl, hR5, hB2⟩))
  have hk := blk_upG hk hB2
  have hB := below_more hB1 hB2
  have hcv := HCV.out x2 hB
  go_upto_region 5 with (first
    | (go_at_call 15; refine (CR.out _).mono ?_; rintro e' x7 ⟨A6, c6, rfl, hR6, hB3⟩))
  have hk := blk_upG hk hB3
  have hB := below_more hB hB3
  have hR5 := hR5.below hB3
  clear hB1 hB2 hB3 hk0 CS CG CR hcv
  by_cases hf0 : f = 0
  · have hf0' : (f : Int) = 0 := by omega
    subst hf0
    clear HQ0 CN
    go_upto_region 10 with fail
    have hk := hk.drew
    have hB := hB.drew
    have hR6 : RdR x7.drew A6 p0 (N.map VN) := hR6
    have hR5 : RdR x7.drew A5 q ((hits k l N L).map VI) := hR5
    refine wp_region_held_drew (S := fun W => Blk W w.heap.size [.int .u64 (k : Int), .int .u64 (l : Int)] 23) (by kernel_rfl) ?_ (fun hHeld => ?_)
    · exact hk
    refine wpAnyH_take (i := 0) rfl (by kernel_rfl) (by kernel_rfl) (by kernel_rfl) (fun _ _ _ h => h) (yieldsIf_load_mid (by rfl) _ _ rfl _ _ rfl [.int .u64 (k : Int), .int .u64 (l : Int)] _ (fun w hSw => Blk.range hSw) Try.underlying23 rfl (by kernel_rfl)) (by assumption) ?_
    (try simp only [List.getElem_toArray, List.getElem_cons_succ, List.getElem_cons_zero, Act.put, List.setIfInBounds_toArray, List.set_cons_succ, List.set_cons_zero])
    refine wpAnyH_take (i := 1) (v := ?_) rfl (by kernel_rfl) (by kernel_rfl) (by kernel_rfl) (fun _ _ _ h => h) (Or.inl ⟨by rfl, ?_⟩) (by assumption) ?_
    rotate_left 1
    · intro w hSw; (try dsimp only at hSw); simp only [List.getElem_toArray, List.getElem_cons_succ, List.getElem_cons_zero]; go_simp; try (with_reducible rfl)
    (try simp only [List.getElem_toArray, List.getElem_cons_succ, List.getElem_cons_zero, Act.put, List.setIfInBounds_toArray, List.set_cons_succ, List.set_cons_zero])
    refine wpAnyH_take (i := 2) (v := ?_) rfl (by kernel_rfl) (by kernel_rfl) (by kernel_rfl) (fun _ _ _ h => h) (Or.inl ⟨by rfl, ?_⟩) (by assumption) ?_
    rotate_left 1
    · intro w hSw; (try dsimp only at hSw); simp only [List.getElem_toArray, List.getElem_cons_succ, List.getElem_cons_zero]; go_simp; try (with_reducible rfl)
    (try simp only [List.getElem_toArray, List.getElem_cons_succ, List.getElem_cons_zero, Act.put, List.setIfInBounds_toArray, List.set_cons_succ, List.set_cons_zero])
    refine wpAnyH_ready (rs := [3]) (by kernel_rfl) (by simp) ?_
    refine AllReadyH.cons rfl (fun K hK => ?_) AllReadyH.nil
    (try simp only [List.getElem_toArray, List.getElem_cons_succ, List.getElem_cons_zero])
    go_simp
    go_at_call 13; refine (CT.out _ hB).mono ?_; rintro e' x3 ⟨A8, c8, rfl, hO8, hB8⟩
    (try (go_wp2_with fail))
    refine hK.out _ _ ?_ (fun hHeld => ?_)
    · exact blk_upG hk hB8
    clear hK K
    (try simp only [Act.put, List.setIfInBounds_toArray, List.set_cons_succ, List.set_cons_zero])
    have hk := blk_upG hk hB8
    have hB := below_more hB hB8
    have hR6 := hR6.below hB8
    refine wpAnyH_ready (rs := [4]) (by kernel_rfl) (by simp) ?_
    refine AllReadyH.cons rfl (fun K hK => ?_) AllReadyH.nil
    (try simp only [List.getElem_toArray, List.getElem_cons_succ, List.getElem_cons_zero])
    go_simp
    go_at_call 18; refine (CW.out _ _ _ hR6 _ _ hO8.rd).mono ?_; rintro e' x4 ⟨A7, c7, rfl, hR7, hB7⟩
    (try (go_wp2_with fail))
    refine hK.out _ _ ?_ (fun hHeld => ?_)
    · exact blk_upG hk hB7
    clear hK K
    (try simp only [Act.put, List.setIfInBounds_toArray, List.set_cons_succ, List.set_cons_zero])
    refine wpAnyH_take (i := 5) (v := ?_) rfl (by kernel_rfl) (by kernel_rfl) (by kernel_rfl) (fun _ _ _ h => h) (Or.inl ⟨by rfl, ?_⟩) (by assumption) ?_
    rotate_left 1
    · intro w hSw; (try dsimp only at hSw); simp only [List.getElem_toArray, List.getElem_cons_succ, List.getElem_cons_zero]; go_simp; try (with_reducible rfl)
    (try simp only [List.getElem_toArray, List.getElem_cons_succ, List.getElem_cons_zero, Act.put, List.setIfInBounds_toArray, List.set_cons_succ, List.set_cons_zero])
    refine wpAnyH_done (by kernel_rfl) ?_ _
    have hk := blk_upG hk hB7
    have hB := below_more hB hB7
    have HR5 := Lib.hid (hR5.below (below_more hB8 hB7))
    have HR7 := Lib.hid hR7
    have HB := Lib.hid hB
    have HK := Lib.hid hk
    clear hk hB hR7 hR6 hR5 hO8 hB8 hB7 CT CW
    go_wp2
    go_loopw [80, 14] (fun cv kv wr => ∃ (i p : Nat), i ≤ m ∧ cv = .int .i64 (i : Int) ∧ kv = .int .i64 (p : Int) ∧ p = (hitsT k l N L i).length ∧ Below x4.heap.size x4 wr) (fun cv _ _ => m - (intOf cv).toNat)
    case atStart => exact ⟨0, 0, Nat.zero_le _, rfl, rfl, rfl, Below.refl _ _⟩
    case round =>
      obtain ⟨i, p, him, rfl, rfl, hp, hbel⟩ := hrel
      have hB := below_more HB.out hbel
      have hk := blk_upG HK.out hbel
      by_cases hlt : i < m
      · have hlt' : (i : Int) < (m : Int) := by omega
        obtain ⟨bx, ox, X', mx, dx, hli, rfl, sc, h1, h2, h3⟩ := (HX0.out.below hB).at_ hlt
        have hLi : L[i]? = some L[i] := List.getElem?_eq_getElem hli
        have hpq : p ≤ q := by rw [hp, HQ.out]; exact hitsT_le k l N L i (by rw [HLN.out]; omega)
        have hpb : p ≤ 1000 := by omega
        have HM0 := CM.out wr X' mx dx _ hB h3 h1 h2 (List.getElem_mem hli)
        obtain ⟨h, hh⟩ : ∃ z, z = hit k l N L[i] := ⟨_, rfl⟩
        rw [← hh] at HM0
        have HM := Lib.hid HM0
        unfold maxLen at h2
        cases h with
        | true =>
          obtain ⟨g1, g2⟩ := hits_at k l N L i _ hLi hh.symm
          rw [← hp] at g1 g2
          obtain ⟨hpl, g1⟩ := List.getElem?_eq_some_iff.1 g1
          have hpq1 : p < q := by rw [HQ.out]; exact hpl
          have hpq2 : (p : Int) < (q : Int) := by omega
          obtain ⟨b5, o5, hl5, rfl, hb5, sc5⟩ := (HR5.out.below hbel).at_ hpq1
          obtain ⟨b7, o7, hl7, rfl, hb7, sc7⟩ := (HR7.out.below hbel).at_ hpq1
          rw [List.getElem_map, g1] at sc5 sc7
          have sd5 : wr.cell? ⟨b5, o5 + p, none⟩ = some (.int .i64 (i : Int)) := sc5
          have sd7 : wr.cell? ⟨b7, o7 + p, none⟩ = some (.int .i64 (i : Int)) := sc7
          have HG : Hid (p + 1 = (hitsT k l N L (i + 1)).length) := Lib.hid g2.symm
          have HBL := Lib.hid hbel
          clear sc5 sc7 g1 g2 hp hh HM0 hLi hpl hl5 hl7 hb7 h3 hB hbel
          go_wp2_with (first
            | ((with_reducible refine at_load 23 (.tmp 3) ?_); refine wpList_load_mid rfl 23 (.tmp 3) rfl w.heap.size 0 (by first | rfl | (simp [Act.eval]; done)) [.int .u64 (k : Int), .int .u64 (l : Int)] _ (Blk.range hk) Try.underlying23 rfl (by kernel_rfl) ?_)
            | (go_at_call 16; refine (HM.out).mono ?_; rintro e' x6 ⟨rfl, hB6⟩; have sd6 : x6.cell? ⟨b5, o5 + p, none⟩ = some (.int .i64 (i : Int)) := (hB6.cell (p := ⟨b5, o5 + p, none⟩) hb5).trans sd5))
          go_roundw
          case rel => exact ⟨i + 1, p + 1, by omega, by go_num, by go_num, HG.out, below_more HBL.out hB6⟩
          case measure => simp [intOf]; omega
        | false =>
          obtain ⟨g1, g2⟩ := hits_no k l N L i _ hLi hh.symm
          have HG : Hid (p = (hitsT k l N L (i + 1)).length) := Lib.hid (by rw [g2]; exact hp)
          by_cases hpq1 : p < q
          · have hpq2 : (p : Int) < (q : Int) := by omega
            obtain ⟨b7, o7, hl7, rfl, hb7, sc7⟩ := (HR7.out.below hbel).at_ hpq1
            rw [List.getElem_map] at sc7
            obtain ⟨y, hy⟩ : ∃ z, z = (hits k l N L)[p]'(by rw [← HQ.out]; exact hpq1) := ⟨_, rfl⟩
            have hyi : ¬ (y : Int) = (i : Int) := by
              have := g1 p (by rw [← HQ.out]; exact hpq1)
              rw [← hy] at this
              omega
            rw [← hy] at sc7
            have sd7 : wr.cell? ⟨b7, o7 + p, none⟩ = some (.int .i64 (y : Int)) := sc7
            have HBL := Lib.hid hbel
            clear sc7 g1 g2 hp hh HM0 hLi hl7 hb7 h3 hB hbel hy
            go_wp2_with (first
              | ((with_reducible refine at_load 23 (.tmp 3) ?_); refine wpList_load_mid rfl 23 (.tmp 3) rfl w.heap.size 0 (by first | rfl | (simp [Act.eval]; done)) [.int .u64 (k : Int), .int .u64 (l : Int)] _ (Blk.range hk) Try.underlying23 rfl (by kernel_rfl) ?_)
              | (go_at_call 16; refine (HM.out).mono ?_; rintro e' x6 ⟨rfl, hB6⟩))
            go_roundw
            case rel => exact ⟨i + 1, p, by omega, by go_num, rfl, HG.out, below_more HBL.out hB6⟩
            case measure => simp [intOf]; omega
          · have hpq2 : ¬ (p : Int) < (q : Int) := by omega
            have HBL := Lib.hid hbel
            clear g1 g2 hp hh HM0 hLi h3 hB hbel
            go_wp2_with (first
              | ((with_reducible refine at_load 23 (.tmp 3) ?_); refine wpList_load_mid rfl 23 (.tmp 3) rfl w.heap.size 0 (by first | rfl | (simp [Act.eval]; done)) [.int .u64 (k : Int), .int .u64 (l : Int)] _ (Blk.range hk) Try.underlying23 rfl (by kernel_rfl) ?_)
              | (go_at_call 16; refine (HM.out).mono ?_; rintro e' x6 ⟨rfl, hB6⟩))
            go_roundw
            case rel => exact ⟨i + 1, p, by omega, by go_num, rfl, HG.out, below_more HBL.out hB6⟩
            case measure => simp [intOf]; omega
      · have hlt' : ¬ (i : Int) < (m : Int) := by omega
        have e : i = m := by omega
        subst e
        have HB9 := Lib.hid hB
        clear hB hbel hp
        go_wp2_with (first
          | (go_at_call 10; refine (CA.out _).mono ?_; rintro e' x5 ⟨rfl, hB10⟩))
        go_ret
        exact ⟨rfl, HB0.out.trans ((below_more HB9.out hB10).mono (by omega))⟩
  · have hf0' : ¬ (f : Int) = 0 := by omega
    have hq0 : q = 0 := HQ0.out hf0
    subst hq0
    have HN := Lib.hid (CN.out _ hB hf0)
    have HB9 := Lib.hid hB
    clear hB hR5 hR6 CM CT CW hf0
    go_wp2_with (first
      | ((with_reducible refine at_load 23 (.tmp 3) ?_); refine wpList_load_mid rfl 23 (.tmp 3) rfl w.heap.size 0 (by first | rfl | (simp [Act.eval]; done)) [.int .u64 (k : Int), .int .u64 (l : Int)] _ (Blk.range hk) Try.underlying23 rfl (by kernel_rfl) ?_)
      | (go_at_call 16; refine (HN.out).mono ?_; rintro e' x3 ⟨rfl, hB7⟩)
      | (go_at_call 10; refine (CA.out _).mono ?_; rintro e' x4 ⟨rfl, hB8⟩))
    go_ret
    exact ⟨rfl, HB0.out.trans ((below_more (below_more HB9.out hB7) hB8).mono (by omega))⟩
end Go.Proofs.Ytplnmjdafchjbaa
