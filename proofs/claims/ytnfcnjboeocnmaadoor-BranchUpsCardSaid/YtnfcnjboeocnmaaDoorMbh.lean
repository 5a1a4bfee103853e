/- Merged texts: BrnB. -/
import Derived.Test.YtnfcnjboeocnmaaDoorMbf
import Derived.Test.YtnfcnjboeocnmaaDoorMbg
import Derived.Test.YtnfcnjboeocnmaaDoorMax
import Derived.Deep.RegionHeld3
/- The contract of the document's own Up of layer 9. -/
namespace Go.Proofs.YtnfcnjboeocnmaaDoor
open Go.RowKit
set_option linter.unusedVariables false
set_option linter.unusedSimpArgs false

set_option maxRecDepth 100000 in
theorem Blk.stepF {w w' : World} {g : Nat} {cs : List Value} {t : TypeId} (h : Blk w g cs t) (hf : Frm (fun _ => False) w w') : Blk w' g cs t := hf.blk h (fun h => h)
set_option maxRecDepth 100000 in
theorem I32 : (Tryd.prog.info? 34).map (·.size) = some z32.length := by kernel_rfl
set_option maxRecDepth 100000 in
theorem O32 : ∀ v ∈ z32, v.oneCell' = true := by rw [show z32 = (List.replicate 32 (0 : UInt8)).map B8 from rfl]; exact b8_one _
set_option maxRecDepth 100000 in
theorem BZ (W : World) : (Instr.build 34 #[]).run Tryd.prog W = .ok (.agg z32.toArray) W := run_build W _ _ _ (by kernel_rfl)
set_option maxRecDepth 100000 in
set_option maxHeartbeats 4000000 in
theorem dup_bad (c i : Int) (A : Option Addr) (m cap E : Nat) (LF : List Value) (w : World) (hE : rgt c i m = E) (h0 : ¬ E = 0) : Calls Tryd.prog 16 #[.agg #[.int .i64 c, .int .i64 i, .slice A m cap], .agg LF.toArray] w (Ret w (.tuple #[.agg z32.toArray, .int .i64 (E : Int)])) := by
  have CR : Hid (∀ W, Calls Tryd.prog 19 #[.agg #[.int .i64 c, .int .i64 i, .slice A m cap]] W (Ret W (.int .i64 (E : Int)))) := Lib.hid fun W => by rw [← hE]; exact dright_calls c i A m cap W
  have h1 : ¬ (E : Int) = 0 := by omega
  clear hE
  obtain ⟨w0, hw0⟩ : ∃ x, x = ((w.alloc (.cells #[.int .i64 c, .int .i64 i, .slice A m cap] 31)).alloc (.cells LF.toArray 34)).alloc (.cells z32.toArray 34) := ⟨_, rfl⟩
  have hs0 : w0.heap.size = w.heap.size + 3 := by rw [hw0]; simp
  have hB0 : Below w.heap.size w w0 := by rw [hw0]; exact below_al (below_al (below_al (Below.refl _ _) _) _) _
  have hk0 : Blk w0 w.heap.size [.int .i64 c, .int .i64 i, .slice A m cap] 31 := by rw [hw0]; exact Blk.alloc (Blk.alloc (Blk.new w _ _) _) _
  have hk1 : Blk w0 (w.heap.size + 1) LF 34 := by rw [hw0]; exact Blk.alloc (Blk.new' _ _ _ _ (by simp)) _
  have hk2 : Blk w0 (w.heap.size + 2) z32 34 := by rw [hw0]; exact Blk.new' _ _ _ _ (by simp)
  have hw1 : ((w.alloc (.cells #[.int .i64 c, .int .i64 i, .slice A m cap] 31)).alloc (.cells LF.toArray 34)).alloc (.cells #[.int .u8 0, .int .u8 0, .int .u8 0, .int .u8 0, .int .u8 0, .int .u8 0, .int .u8 0, .int .u8 0, .int .u8 0, .int .u8 0, .int .u8 0, .int .u8 0, .int .u8 0, .int .u8 0, .int .u8 0, .int .u8 0, .int .u8 0, .int .u8 0, .int .u8 0, .int .u8 0, .int .u8 0, .int .u8 0, .int .u8 0, .int .u8 0, .int .u8 0, .int .u8 0, .int .u8 0, .int .u8 0, .int .u8 0, .int .u8 0, .int .u8 0, .int .u8 0] 34) = w0 := hw0.symm
  clear hw0
  go_enter Tryd.func16, Tryd.ntmps16
  go_upto_region 1 with fail
  try rw [hw1]
  clear hw1
  go_wp2_with (first
    | ((with_reducible refine at_load 31 (.tmp 2) ?_); refine wpList_load_mid rfl 31 (.tmp 2) rfl w.heap.size 0 (by first | rfl | simp [Act.eval]) [.int .i64 c, .int .i64 i, .slice A m cap] _ (Blk.range hk0) Tryd.underlying31 rfl (by kernel_rfl) ?_)
    | (go_at_call 19; refine (CR.out _).mono ?_; rintro e' x1 ⟨rfl, d1⟩)
    | ((with_reducible refine at_bldZ 34 #[] ?_); refine wpList_bld rfl 34 #[] rfl #[] (.agg z32.toArray) (by rfl) BZ ?_)
    | ((with_reducible refine at_store 34 (.tmp 4) (.tmp 17) ?_); refine wpList_store_blk rfl 34 (.tmp 4) (.tmp 17) rfl (w.heap.size + 2) z32 z32 34 rfl rfl (hk2.up d1) rfl I32 O32 ?_; intro x9 hx9 ho9))
  refine bodyPost_ret (v := .tuple #[.agg z32.toArray, .int .i64 (E : Int)]) ?_ rfl ?_
  · exact results_in Tryd.results16 _ _ (w.heap.size + 2) 34 _ (0, 0) _ _ (by rfl) (by rfl) hx9 Tryd.underlying34 rfl I32
  · exact ⟨rfl, (below_more hB0 d1).trans (ho9.below (by omega))⟩
set_option maxRecDepth 100000 in
set_option maxHeartbeats 4000000 in
theorem dup_good (n i : Nat) (A : Option Addr) (m cap : Nat) (P : List (List UInt8)) (leaf : List UInt8) (U : List UInt8) (EE : Nat) (w : World) (hr : RdH w A m P) (hl : leaf.length = 32) (hm : m = depth n) (hi : i < n) (hn : n ≤ 65536)
    (HUP : Hid ((goUp n i leaf P = none → (U, EE) = (List.replicate 32 0, 15)) ∧ (∀ x, goUp n i leaf P = some x → (U, EE) = (x, 0)))) : Calls Tryd.prog 16 #[.agg #[.int .i64 (n : Int), .int .i64 (i : Int), .slice A m cap], .agg (leaf.map B8).toArray] w (Ret w (.tuple #[.agg (U.map B8).toArray, .int .i64 (EE : Int)])) := by
  have hm16 : m ≤ 16 := by rw [hm]; exact depth_16 n hn
  have hrg : rgt (n : Int) (i : Int) m = 0 := by unfold rgt; rw [if_neg (by omega), if_neg (by rw [hm, Int.toNat_natCast]; simp)]
  have CR : Hid (∀ W, Calls Tryd.prog 19 #[.agg #[.int .i64 (n : Int), .int .i64 (i : Int), .slice A m cap]] W (Ret W (.int .i64 0))) := Lib.hid fun W => by have := dright_calls (n : Int) (i : Int) A m cap W; rw [hrg] at this; exact this
  clear hrg
  have CW : Hid (∀ (W : World) (t : Nat), t ≤ 16 → Calls Tryd.prog 25 #[.int .i64 (n : Int), .int .i64 (t : Int)] W (Ret W (.int .i64 (wide n t : Int)))) := Lib.hid fun W t ht => dwide16_calls n t hn (Nat.le_trans ht (by decide)) W
  have CPR : Hid (∀ x b : List UInt8, x.length = 32 → b.length = 32 → ∀ W, Calls Tryd.prog 29 #[.agg (x.map B8).toArray, .agg (b.map B8).toArray] W (Ret W (.agg ((pr x b).map B8).toArray))) := Lib.hid fun x b hx hb W => dpair_calls x b hx hb W
  obtain ⟨LF, hLF⟩ : ∃ V, V = leaf.map B8 := ⟨_, rfl⟩
  have IL : Hid ((Tryd.prog.info? 34).map (·.size) = some LF.length) := Lib.hid (by rw [hLF, List.length_map, hl]; kernel_rfl)
  have LL : Hid (z32.length = LF.length) := Lib.hid (by rw [hLF, List.length_map, hl]; rfl)
  have OL : Hid (∀ v ∈ LF, v.oneCell' = true) := Lib.hid (by rw [hLF]; exact b8_one _)
  have HLF := Lib.hid hLF
  have HL := Lib.hid hl
  have HR := Lib.hid hr
  have hln := hr.len
  have hww := fun t => ix_lt n i hi t
  have HIXL := Lib.hid hww
  rw [← hLF]
  clear hLF hl hr hm hww
  obtain ⟨w0, hw0⟩ : ∃ x, x = ((w.alloc (.cells #[.int .i64 (n : Int), .int .i64 (i : Int), .slice A m cap] 31)).alloc (.cells LF.toArray 34)).alloc (.cells z32.toArray 34) := ⟨_, rfl⟩
  have hs0 : w0.heap.size = w.heap.size + 3 := by rw [hw0]; simp
  have hB0 : Below w.heap.size w w0 := by rw [hw0]; exact below_al (below_al (below_al (Below.refl _ _) _) _) _
  have hk0 : Blk w0 w.heap.size [.int .i64 (n : Int), .int .i64 (i : Int), .slice A m cap] 31 := by rw [hw0]; exact Blk.alloc (Blk.alloc (Blk.new w _ _) _) _
  have hk1 : Blk w0 (w.heap.size + 1) LF 34 := by rw [hw0]; exact Blk.alloc (Blk.new' _ _ _ _ (by simp)) _
  have hk2 : Blk w0 (w.heap.size + 2) z32 34 := by rw [hw0]; exact Blk.new' _ _ _ _ (by simp)
  have hw1 : ((w.alloc (.cells #[.int .i64 (n : Int), .int .i64 (i : Int), .slice A m cap] 31)).alloc (.cells LF.toArray 34)).alloc (.cells #[.int .u8 0, .int .u8 0, .int .u8 0, .int .u8 0, .int .u8 0, .int .u8 0, .int .u8 0, .int .u8 0, .int .u8 0, .int .u8 0, .int .u8 0, .int .u8 0, .int .u8 0, .int .u8 0, .int .u8 0, .int .u8 0, .int .u8 0, .int .u8 0, .int .u8 0, .int .u8 0, .int .u8 0, .int .u8 0, .int .u8 0, .int .u8 0, .int .u8 0, .int .u8 0, .int .u8 0, .int .u8 0, .int .u8 0, .int .u8 0, .int .u8 0, .int .u8 0] 34) = w0 := hw0.symm
  clear hw0
  go_enter Tryd.func16, Tryd.ntmps16
  go_upto_region 1 with fail
  try rw [hw1]
  clear hw1
  go_upto_region 4 with (first
    | ((with_reducible refine at_load 31 (.tmp 2) ?_); refine wpList_load_mid rfl 31 (.tmp 2) rfl w.heap.size 0 (by first | rfl | simp [Act.eval]) [.int .i64 (n : Int), .int .i64 (i : Int), .slice A m cap] _ (Blk.range hk0) Tryd.underlying31 rfl (by kernel_rfl) ?_)
    | (go_at_call 19; refine (CR.out _).mono ?_; rintro e' x1 ⟨rfl, d1⟩))
  have hB1 := below_more hB0 d1
  have hk0 := hk0.up d1
  have hk1 := hk1.up d1
  have hk2 := hk2.up d1
  have K4 : Hid (∀ W, Below w.heap.size w W → Blk W w.heap.size [.int .i64 (n : Int), .int .i64 (i : Int), .slice A m cap] 31 → Blk W (w.heap.size + 1) LF 34 → Below w.heap.size w W ∧ W.rangeAt (w.heap.size + 1) 0 LF ∧ W.cell? ⟨w.heap.size, 1, none⟩ = some (.int .i64 (i : Int))) := Lib.hid fun W h h0 h1 => ⟨h, h1.range, h0.cell 1⟩
  have sx1 := d1.size
  have sd1 : x1.drew.heap.size = x1.heap.size := rfl
  refine wp_region_held_drew (S := fun W => Below w.heap.size w W ∧ W.rangeAt (w.heap.size + 1) 0 LF ∧ W.cell? ⟨w.heap.size, 1, none⟩ = some (.int .i64 (i : Int))) (by kernel_rfl) ?_ (fun hHeld => ?_)
  · exact K4.out _ (by first | assumption | exact hB1.drew) (by first | exact hk0.drew | exact hk0.drew.stepF (by assumption)) (by first | exact hk1.drew | exact hk1.drew.stepF (by assumption))
  refine wpAnyH_take (i := 0) rfl (by kernel_rfl) (by kernel_rfl) (by kernel_rfl) (fun _ _ _ h => h) (yieldsIf_load_mid (by rfl) _ _ rfl _ _ rfl LF _ (fun w hSw => by (try dsimp only at hSw); go_split_ands; assumption) Tryd.underlying34 rfl IL.out) (by assumption) ?_
  (try simp only [List.getElem_toArray, List.getElem_cons_succ, List.getElem_cons_zero, Act.put, List.setIfInBounds_toArray, List.set_cons_succ, List.set_cons_zero])
  refine wpAnyH_take (i := 1) (v := ?_) rfl (by kernel_rfl) (by kernel_rfl) (by kernel_rfl) (fun _ _ _ h => h) (Or.inl ⟨by rfl, ?_⟩) (by assumption) ?_
  rotate_left 1
  · intro w hSw; (try dsimp only at hSw); simp only [List.getElem_toArray, List.getElem_cons_succ, List.getElem_cons_zero]; go_simp; try (with_reducible rfl)
  (try simp only [List.getElem_toArray, List.getElem_cons_succ, List.getElem_cons_zero, Act.put, List.setIfInBounds_toArray, List.set_cons_succ, List.set_cons_zero])
  refine wpAnyH_take (i := 2) (v := ?_) rfl (by kernel_rfl) (by kernel_rfl) (by kernel_rfl) (fun _ _ _ h => h) (Or.inl ⟨by rfl, ?_⟩) (by assumption) ?_
  rotate_left 1
  · intro w hSw; (try dsimp only at hSw); simp only [List.getElem_toArray, List.getElem_cons_succ, List.getElem_cons_zero]; go_simp; try (with_reducible rfl)
  (try simp only [List.getElem_toArray, List.getElem_cons_succ, List.getElem_cons_zero, Act.put, List.setIfInBounds_toArray, List.set_cons_succ, List.set_cons_zero])
  refine wpAnyH_ready (rs := [3]) (by kernel_rfl) (by simp) ?_
  refine AllReadyH.cons rfl (fun K hK => ?_) AllReadyH.nil
  (try simp only [List.getElem_toArray, List.getElem_cons_succ, List.getElem_cons_zero])
  refine Eq.mpr (if_pos (by first | rfl | simp [Region.wanted, yielded, Act.put])) ?_
  refine wp_allocT 34 z32 (by kernel_rfl) rfl w.heap.size w (by first | assumption | exact (by assumption : Below _ _ _).drew) (Nat.le_refl _) ?_
  intro g4 x4 hb4 hg4 hl4 hf4 hB4
  refine hK.out _ _ ?_ (fun hHeld => ?_)
  · exact K4.out _ (by first | assumption | exact hB1.drew) (by first | exact hk0.drew | exact hk0.drew.stepF (by assumption)) (by first | exact hk1.drew | exact hk1.drew.stepF (by assumption))
  clear hK K
  (try simp only [Act.put, List.setIfInBounds_toArray, List.set_cons_succ, List.set_cons_zero])
  refine wpAnyH_ready (rs := [4]) (by kernel_rfl) (by simp) ?_
  refine AllReadyH.cons rfl (fun K hK => ?_) AllReadyH.nil
  (try simp only [List.getElem_toArray, List.getElem_cons_succ, List.getElem_cons_zero])
  refine Eq.mpr (if_pos (by first | rfl | simp [Region.wanted, yielded, Act.put])) ?_
  refine wp_store_in 34 (.tmp 7) (.tmp 19) rfl g4 z32 LF 34 rfl rfl hb4 LL.out IL.out OL.out ?_
  intro x5 hb5 ho5
  have hB5 : Below w.heap.size w x5 := hB4.trans (ho5.below (by omega))
  refine hK.out _ _ ?_ (fun hHeld => ?_)
  · exact K4.out _ hB5 (ho5.blk (hk0.drew.stepF hf4) (by omega)) (ho5.blk (hk1.drew.stepF hf4) (by omega))
  clear hK K
  (try simp only [Act.put, List.setIfInBounds_toArray, List.set_cons_succ, List.set_cons_zero])
  refine wpAnyH_take (i := 5) (v := ?_) rfl (by kernel_rfl) (by kernel_rfl) (by kernel_rfl) (fun _ _ _ h => h) (Or.inl ⟨by rfl, ?_⟩) (by assumption) ?_
  rotate_left 1
  · intro w hSw; (try dsimp only at hSw); simp only [List.getElem_toArray, List.getElem_cons_succ, List.getElem_cons_zero]; go_simp; try (with_reducible rfl)
  (try simp only [List.getElem_toArray, List.getElem_cons_succ, List.getElem_cons_zero, Act.put, List.setIfInBounds_toArray, List.set_cons_succ, List.set_cons_zero])
  refine wpAnyH_done (by kernel_rfl) ?_ _
  have hz5 := ho5.blk (hk2.drew.stepF hf4) (by omega)
  have hk05 := ho5.blk (hk0.drew.stepF hf4) (by omega)
  have hz5' : Blk x5 (w.heap.size + 2) z32 34 := hz5
  have hgN : w.heap.size + 3 ≤ g4 := by omega
  clear hb4 hg4 hl4 hf4 hB4 ho5 hk0 hk1 hk2 hB1 hB0 d1 K4 CR
  go_wp2
  go_loopw [9, 8] (fun lv at_ wr => ∃ (t : Nat) (x : List UInt8), lv = .int .i64 (t : Int) ∧ at_ = .int .i64 ((ix i t : Nat) : Int) ∧ t ≤ m ∧ Blk wr g4 (x.map B8) 34 ∧ x.length = 32 ∧ goUp n i leaf P = goUp (wide n t) (ix i t) x (P.drop t) ∧ Blk wr w.heap.size [.int .i64 (n : Int), .int .i64 (i : Int), .slice A m cap] 31 ∧ Blk wr (w.heap.size + 2) z32 34 ∧ Below w.heap.size w wr) (fun lv _ _ => m - (intOf lv).toNat)
  case atStart => exact ⟨0, leaf, by first | rfl | go_num, rfl, by omega, by rw [← HLF.out]; exact hb5, HL.out, rfl, hk05, hz5, hB5⟩
  case round =>
    obtain ⟨t, x, rfl, rfl, htm, hxb, hx32, hgo, hsb, hzb, hbel⟩ := hrel
    have sc0 : wr.cell? ⟨w.heap.size, 0, none⟩ = some (.int .i64 (n : Int)) := hsb.cell 0
    have sc2 : wr.cell? ⟨w.heap.size, 2, none⟩ = some (.slice A m cap) := hsb.cell 2
    obtain ⟨gN, hgg⟩ : ∃ g, g = g4 := ⟨_, rfl⟩
    rw [← hgg] at hxb hgN ⊢
    obtain ⟨X, hX⟩ : ∃ V, V = x.map B8 := ⟨_, rfl⟩
    rw [← hX] at hxb
    have IX : Hid ((Tryd.prog.info? 34).map (·.size) = some X.length) := Lib.hid (by rw [hX, List.length_map, hx32]; kernel_rfl)
    have HXX := Lib.hid hX
    have HX32 := Lib.hid hx32
    by_cases hlt : t < m
    · have hlt' : (t : Int) < (m : Int) := by omega
      obtain ⟨a, ha⟩ : ∃ a, a = ix i t := ⟨_, rfl⟩
      obtain ⟨a', ha'⟩ : ∃ a', a' = a / 2 := ⟨_, rfl⟩
      obtain ⟨b, hb⟩ : ∃ b, b = hat P t := ⟨_, rfl⟩
      obtain ⟨wt, hwt⟩ : ∃ x, x = wide n t := ⟨_, rfl⟩
      have hawt : a < wt := by rw [ha, hwt]; exact HIXL.out t
      have hwt6 : wt ≤ 65537 := by rw [hwt]; have := wide_le n t; omega
      have b32 : b.length = 32 := by rw [hb]; exact hat_32 HR.out.all (by rw [HR.out.len]; exact hlt)
      obtain ⟨V, hV⟩ : ∃ V, V = b.map B8 := ⟨_, rfl⟩
      have IV : Hid ((Tryd.prog.info? 34).map (·.size) = some V.length) := Lib.hid (by rw [hV, List.length_map, b32]; kernel_rfl)
      have LV : Hid (z32.length = V.length) := Lib.hid (by rw [hV, List.length_map, b32]; rfl)
      have OV : Hid (∀ v ∈ V, v.oneCell' = true) := Lib.hid (by rw [hV]; exact b8_one _)
      have HVV := Lib.hid hV
      have HB32 := Lib.hid b32
      obtain ⟨bb, off, rfl, hblt, hga⟩ := (HR.out.below hbel).at_ hlt
      rw [← hb, ← hV] at hga
      obtain ⟨BS, hBS⟩ : ∃ B, B = decide (x = b) := ⟨_, rfl⟩
      have heq : ∀ W, (Op.equalIn 10000 34 (.agg X.toArray) (.agg V.toArray)).run Tryd.prog W = .ok BS W := fun W => by rw [hX, hV]; exact eqR32 x b hx32 b32 BS hBS.symm W
      have HBX : Hid (decide (x = b) = BS) := Lib.hid hBS.symm
      have hdrop : P.drop t = b :: P.drop (t + 1) := by
        have ht : t < P.length := by rw [HR.out.len]; exact hlt
        rw [List.drop_eq_getElem_cons ht, hb]
        congr 1
        unfold hat
        rw [List.getD_eq_getElem?_getD, List.getElem?_eq_getElem ht]
        rfl
      have HG : Hid (goUp n i leaf P = goUp wt a x (b :: P.drop (t + 1))) := Lib.hid (by rw [hgo, hdrop, ← hwt, ← ha])
      have HAX : Hid ((wt + 1) / 2 = wide n (t + 1) ∧ a / 2 = ix i (t + 1)) := Lib.hid ⟨by rw [hwt]; rfl, by rw [ha]; rfl⟩
      have HIX : Hid (a = ix i t ∧ ix i (t + 1) = a') := Lib.hid ⟨ha, by rw [ha', ha]; rfl⟩
      have CWt : Hid (∀ W, Calls Tryd.prog 25 #[.int .i64 (n : Int), .int .i64 (t : Int)] W (Ret W (.int .i64 (wt : Int)))) := Lib.hid fun W => by rw [hwt]; exact CW.out W t (by omega)
      have q1 : Int.tdiv (a : Int) 2 = (a' : Int) := by rw [Int.tdiv_eq_ediv_of_nonneg (by omega)]; omega
      have q2 : (a : Int) / 2 = (a' : Int) := by omega
      have q3 : IntKind.i64.wrap (a' : Int) = (a' : Int) := by rw [IntKind.wrap_i64]; omega
      have q4 : IntKind.i64.wrap ((a : Int) + 1) = (a : Int) + 1 := by rw [IntKind.wrap_i64]; omega
      have sbl := hbel.size
      rw [← ha]
      clear hgo hdrop ha hb hwt hX hx32 hV b32 hBS ha' hgg CW
      have HSTEP := Lib.hid True.intro
      have HPT := Lib.hid True.intro
      obtain ⟨wo, hwo⟩ : ∃ x, x = wr := ⟨_, rfl⟩
      rw [← hwo] at hxb hsb hzb hbel sc0 sc2 hblt hga sbl ⊢
      clear hwo
      have hsbl := hsb.lt
      have hxbl := hxb.lt
      go_upto_region 9 with (first
        | ((with_reducible refine at_load 34 (.tmp 32) ?_); refine wpList_load_mid rfl 34 (.tmp 32) rfl bb (off + t * 32) (by first | rfl | simp [Act.eval]) V _ hga Tryd.underlying34 rfl IV.out ?_)
        | ((with_reducible refine at_alloc 34 ?_); refine wpList_allocT rfl 34 z32 (by kernel_rfl) rfl w.heap.size w hbel (Nat.le_refl _) ?_; intro gB z0 hbB hgB hlB hfB hBB)
        | ((with_reducible refine at_store 34 (.tmp 10) (.tmp 33) ?_); refine wpList_store_blk rfl 34 (.tmp 10) (.tmp 33) rfl gB z32 V 34 rfl rfl hbB LV.out IV.out OV.out ?_; intro z1 hv1 hov1))
      have hB1 : Below w.heap.size w z1 := hBB.trans (hov1.below (by omega))
      have hx1 := hov1.blk (hxb.stepF hfB) (by omega)
      have hs1 := hov1.blk (hsb.stepF hfB) (by omega)
      have hz1 := hov1.blk (hzb.stepF hfB) (by omega)
      have sd0 : z1.cell? ⟨w.heap.size, 0, none⟩ = some (.int .i64 (n : Int)) := hs1.cell 0
      clear hbB hlB hfB hBB hov1 hxb hsb hzb hbel sc0 sc2 hga hblt
      go_upto_region 10 with (go_at_call 25; refine (CWt.out _).mono ?_; rintro e' z2 ⟨rfl, f2⟩)
      have hx9 := hx1.up f2
      have hv9 := hv1.up f2
      have hs9 := hs1.up f2
      have hz9 := hz1.up f2
      have hB9 := below_more hB1 f2
      clear hx1 hv1 hs1 hz1 hB1 f2 sd0 CWt
      by_cases hl : a + 1 = wt
      · have hl1 : ((a : Int) + 1 = (wt : Int)) := by omega
        by_cases hev : a % 2 = 0
        · have r1 : Int.tmod (a : Int) 2 = 0 := by rw [Int.tmod_eq_emod_of_nonneg (by omega)]; omega
          have r2 : (a : Int) % 2 = 0 := by omega
          have r3 : IntKind.i64.wrap 0 = 0 := by rw [IntKind.wrap_i64]; omega
          cases hBc : BS
          · rw [hBc] at heq HBX
            have hG : goUp n i leaf P = none := HG.out.trans (by unfold goUp; rw [if_neg (by unfold lvl; rw [HBX.out]; simp [hl, hev])])
            have HGN := Lib.hid hG
            clear hG HG HBX HAX
            go_wp2_with (first
              | ((with_reducible refine at_load 34 (.tmp 7) ?_); refine wpList_load_mid rfl 34 (.tmp 7) rfl gN 0 (by first | rfl | simp [Act.eval]) X _ (Blk.range hx9) Tryd.underlying34 rfl IX.out ?_)
              | ((with_reducible refine at_load 34 (.tmp 10) ?_); refine wpList_load_mid rfl 34 (.tmp 10) rfl gB 0 (by first | rfl | simp [Act.eval]) V _ (Blk.range hv9) Tryd.underlying34 rfl IV.out ?_)
              | ((with_reducible refine at_bldZ 34 #[] ?_); refine wpList_bld rfl 34 #[] rfl #[] (.agg z32.toArray) (by rfl) BZ ?_)
              | ((with_reducible refine at_store 34 (.tmp 4) (.tmp 66) ?_); refine wpList_store_blk rfl 34 (.tmp 4) (.tmp 66) rfl (w.heap.size + 2) z32 z32 34 rfl rfl hz9 rfl I32 O32 ?_; intro y9 hy9 hoy9))
            refine bodyPost_ret (v := .tuple #[.agg z32.toArray, .int .i64 15]) ?_ rfl ?_
            · exact results_in Tryd.results16 _ _ (w.heap.size + 2) 34 _ (0, 0) _ _ (by rfl) (by rfl) hy9 Tryd.underlying34 rfl I32
            · exact ⟨by have he := HUP.out.1 HGN.out; injection he with e1 e2; rw [e1, e2]; rfl, hB9.trans (hoy9.below (by omega))⟩
          · rw [hBc] at heq HBX
            have hG : goUp n i leaf P = goUp (wide n (t + 1)) (ix i (t + 1)) (two a x b) (P.drop (t + 1)) := HG.out.trans (by
              conv => lhs; unfold goUp
              rw [if_pos (by unfold lvl; rw [HBX.out]; simp [hl, hev]), HAX.out.1, HAX.out.2])
            have HGN := Lib.hid hG
            have CP := Lib.hid (CPR.out x b HX32.out HB32.out)
            have htw : two a x b = pr x b := by unfold two; rw [if_pos hev]
            obtain ⟨y, hy⟩ : ∃ y, y = pr x b := ⟨_, rfl⟩
            obtain ⟨Y, hY⟩ : ∃ V, V = y.map B8 := ⟨_, rfl⟩
            have y32 : y.length = 32 := by rw [hy]; exact pr_len _ _
            have IY : Hid ((Tryd.prog.info? 34).map (·.size) = some Y.length) := Lib.hid (by rw [hY, List.length_map, y32]; kernel_rfl)
            have LY : Hid (X.length = Y.length) := Lib.hid (by rw [hY, List.length_map, y32, HXX.out, List.length_map, HX32.out])
            have OY : Hid (∀ v ∈ Y, v.oneCell' = true) := Lib.hid (by rw [hY]; exact b8_one _)
            have HYY := Lib.hid hY
            have HY32 := Lib.hid y32
            have HTW := Lib.hid (htw.trans hy.symm)
            have CPY : Hid (∀ W, Calls Tryd.prog 29 #[.agg X.toArray, .agg V.toArray] W (Ret W (.agg Y.toArray))) := Lib.hid fun W => by rw [hY, hy, HXX.out, HVV.out]; exact CP.out W
            clear hG HG HBX HAX CP htw hy hY y32 CPR
            go_wp2_with (first
              | ((with_reducible refine at_load 34 (.tmp 7) ?_); refine wpList_load_mid rfl 34 (.tmp 7) rfl gN 0 (by first | rfl | simp [Act.eval]) X _ (Blk.range hx9) Tryd.underlying34 rfl IX.out ?_)
              | ((with_reducible refine at_load 34 (.tmp 10) ?_); refine wpList_load_mid rfl 34 (.tmp 10) rfl gB 0 (by first | rfl | simp [Act.eval]) V _ (Blk.range hv9) Tryd.underlying34 rfl IV.out ?_)
              | (go_at_call 29; refine (CPY.out _).mono ?_; rintro e' y8 ⟨rfl, e8⟩)
              | ((with_reducible refine at_store 34 (.tmp 7) (.tmp 72) ?_); refine wpList_store_blk rfl 34 (.tmp 7) (.tmp 72) rfl gN X Y 34 rfl rfl (hx9.up e8) LY.out IY.out OY.out ?_; intro y9 hy9 hoy9))
            go_roundw
            case rel => exact ⟨t + 1, y, by go_num, by rw [HIX.out.2], by omega, by rw [← HYY.out]; exact hy9, HY32.out, by rw [HGN.out, HTW.out], hoy9.blk (hs9.up e8) (by omega), hoy9.blk (hz9.up e8) (by omega), (hB9.trans (e8.mono hB9.size)).trans (hoy9.below (by omega))⟩
            case measure => simp [intOf]; omega
        · have r1 : Int.tmod (a : Int) 2 = 1 := by rw [Int.tmod_eq_emod_of_nonneg (by omega)]; omega
          have r2 : (a : Int) % 2 = 1 := by omega
          have r3 : IntKind.i64.wrap 1 = 1 := by rw [IntKind.wrap_i64]; omega
          cases hBc : BS
          · rw [hBc] at heq HBX
            have hG : goUp n i leaf P = goUp (wide n (t + 1)) (ix i (t + 1)) (two a x b) (P.drop (t + 1)) := HG.out.trans (by
              conv => lhs; unfold goUp
              rw [if_pos (by unfold lvl; rw [HBX.out]; simp [hl, hev]), HAX.out.1, HAX.out.2])
            have HGN := Lib.hid hG
            have CP := Lib.hid (CPR.out b x HB32.out HX32.out)
            have htw : two a x b = pr b x := by unfold two; rw [if_neg hev]
            obtain ⟨y, hy⟩ : ∃ y, y = pr b x := ⟨_, rfl⟩
            obtain ⟨Y, hY⟩ : ∃ V, V = y.map B8 := ⟨_, rfl⟩
            have y32 : y.length = 32 := by rw [hy]; exact pr_len _ _
            have IY : Hid ((Tryd.prog.info? 34).map (·.size) = some Y.length) := Lib.hid (by rw [hY, List.length_map, y32]; kernel_rfl)
            have LY : Hid (X.length = Y.length) := Lib.hid (by rw [hY, List.length_map, y32, HXX.out, List.length_map, HX32.out])
            have OY : Hid (∀ v ∈ Y, v.oneCell' = true) := Lib.hid (by rw [hY]; exact b8_one _)
            have HYY := Lib.hid hY
            have HY32 := Lib.hid y32
            have HTW := Lib.hid (htw.trans hy.symm)
            have CPY : Hid (∀ W, Calls Tryd.prog 29 #[.agg V.toArray, .agg X.toArray] W (Ret W (.agg Y.toArray))) := Lib.hid fun W => by rw [hY, hy, HXX.out, HVV.out]; exact CP.out W
            clear hG HG HBX HAX CP htw hy hY y32 CPR
            go_wp2_with (first
              | ((with_reducible refine at_load 34 (.tmp 7) ?_); refine wpList_load_mid rfl 34 (.tmp 7) rfl gN 0 (by first | rfl | simp [Act.eval]) X _ (Blk.range hx9) Tryd.underlying34 rfl IX.out ?_)
              | ((with_reducible refine at_load 34 (.tmp 10) ?_); refine wpList_load_mid rfl 34 (.tmp 10) rfl gB 0 (by first | rfl | simp [Act.eval]) V _ (Blk.range hv9) Tryd.underlying34 rfl IV.out ?_)
              | (go_at_call 29; refine (CPY.out _).mono ?_; rintro e' y8 ⟨rfl, e8⟩)
              | ((with_reducible refine at_store 34 (.tmp 7) (.tmp 75) ?_); refine wpList_store_blk rfl 34 (.tmp 7) (.tmp 75) rfl gN X Y 34 rfl rfl (hx9.up e8) LY.out IY.out OY.out ?_; intro y9 hy9 hoy9))
            go_roundw
            case rel => exact ⟨t + 1, y, by go_num, by rw [HIX.out.2], by omega, by rw [← HYY.out]; exact hy9, HY32.out, by rw [HGN.out, HTW.out], hoy9.blk (hs9.up e8) (by omega), hoy9.blk (hz9.up e8) (by omega), (hB9.trans (e8.mono hB9.size)).trans (hoy9.below (by omega))⟩
            case measure => simp [intOf]; omega
          · rw [hBc] at heq HBX
            have hG : goUp n i leaf P = none := HG.out.trans (by unfold goUp; rw [if_neg (by unfold lvl; rw [HBX.out]; simp [hl, hev])])
            have HGN := Lib.hid hG
            clear hG HG HBX HAX
            go_wp2_with (first
              | ((with_reducible refine at_load 34 (.tmp 7) ?_); refine wpList_load_mid rfl 34 (.tmp 7) rfl gN 0 (by first | rfl | simp [Act.eval]) X _ (Blk.range hx9) Tryd.underlying34 rfl IX.out ?_)
              | ((with_reducible refine at_load 34 (.tmp 10) ?_); refine wpList_load_mid rfl 34 (.tmp 10) rfl gB 0 (by first | rfl | simp [Act.eval]) V _ (Blk.range hv9) Tryd.underlying34 rfl IV.out ?_)
              | ((with_reducible refine at_bldZ 34 #[] ?_); refine wpList_bld rfl 34 #[] rfl #[] (.agg z32.toArray) (by rfl) BZ ?_)
              | ((with_reducible refine at_store 34 (.tmp 4) (.tmp 66) ?_); refine wpList_store_blk rfl 34 (.tmp 4) (.tmp 66) rfl (w.heap.size + 2) z32 z32 34 rfl rfl hz9 rfl I32 O32 ?_; intro y9 hy9 hoy9))
            refine bodyPost_ret (v := .tuple #[.agg z32.toArray, .int .i64 15]) ?_ rfl ?_
            · exact results_in Tryd.results16 _ _ (w.heap.size + 2) 34 _ (0, 0) _ _ (by rfl) (by rfl) hy9 Tryd.underlying34 rfl I32
            · exact ⟨by have he := HUP.out.1 HGN.out; injection he with e1 e2; rw [e1, e2]; rfl, hB9.trans (hoy9.below (by omega))⟩
      · have hl1 : ¬ ((a : Int) + 1 = (wt : Int)) := by omega
        by_cases hev : a % 2 = 0
        · have r1 : Int.tmod (a : Int) 2 = 0 := by rw [Int.tmod_eq_emod_of_nonneg (by omega)]; omega
          have r2 : (a : Int) % 2 = 0 := by omega
          have r3 : IntKind.i64.wrap 0 = 0 := by rw [IntKind.wrap_i64]; omega
          cases hBc : BS
          · rw [hBc] at heq HBX
            have hG : goUp n i leaf P = goUp (wide n (t + 1)) (ix i (t + 1)) (two a x b) (P.drop (t + 1)) := HG.out.trans (by
              conv => lhs; unfold goUp
              rw [if_pos (by unfold lvl; rw [HBX.out]; simp [hl, hev]), HAX.out.1, HAX.out.2])
            have HGN := Lib.hid hG
            have CP := Lib.hid (CPR.out x b HX32.out HB32.out)
            have htw : two a x b = pr x b := by unfold two; rw [if_pos hev]
            obtain ⟨y, hy⟩ : ∃ y, y = pr x b := ⟨_, rfl⟩
            obtain ⟨Y, hY⟩ : ∃ V, V = y.map B8 := ⟨_, rfl⟩
            have y32 : y.length = 32 := by rw [hy]; exact pr_len _ _
            have IY : Hid ((Tryd.prog.info? 34).map (·.size) = some Y.length) := Lib.hid (by rw [hY, List.length_map, y32]; kernel_rfl)
            have LY : Hid (X.length = Y.length) := Lib.hid (by rw [hY, List.length_map, y32, HXX.out, List.length_map, HX32.out])
            have OY : Hid (∀ v ∈ Y, v.oneCell' = true) := Lib.hid (by rw [hY]; exact b8_one _)
            have HYY := Lib.hid hY
            have HY32 := Lib.hid y32
            have HTW := Lib.hid (htw.trans hy.symm)
            have CPY : Hid (∀ W, Calls Tryd.prog 29 #[.agg X.toArray, .agg V.toArray] W (Ret W (.agg Y.toArray))) := Lib.hid fun W => by rw [hY, hy, HXX.out, HVV.out]; exact CP.out W
            clear hG HG HBX HAX CP htw hy hY y32 CPR
            go_wp2_with (first
              | ((with_reducible refine at_load 34 (.tmp 7) ?_); refine wpList_load_mid rfl 34 (.tmp 7) rfl gN 0 (by first | rfl | simp [Act.eval]) X _ (Blk.range hx9) Tryd.underlying34 rfl IX.out ?_)
              | ((with_reducible refine at_load 34 (.tmp 10) ?_); refine wpList_load_mid rfl 34 (.tmp 10) rfl gB 0 (by first | rfl | simp [Act.eval]) V _ (Blk.range hv9) Tryd.underlying34 rfl IV.out ?_)
              | (go_at_call 29; refine (CPY.out _).mono ?_; rintro e' y8 ⟨rfl, e8⟩)
              | ((with_reducible refine at_store 34 (.tmp 7) (.tmp 72) ?_); refine wpList_store_blk rfl 34 (.tmp 7) (.tmp 72) rfl gN X Y 34 rfl rfl (hx9.up e8) LY.out IY.out OY.out ?_; intro y9 hy9 hoy9))
            go_roundw
            case rel => exact ⟨t + 1, y, by go_num, by rw [HIX.out.2], by omega, by rw [← HYY.out]; exact hy9, HY32.out, by rw [HGN.out, HTW.out], hoy9.blk (hs9.up e8) (by omega), hoy9.blk (hz9.up e8) (by omega), (hB9.trans (e8.mono hB9.size)).trans (hoy9.below (by omega))⟩
            case measure => simp [intOf]; omega
          · rw [hBc] at heq HBX
            have hG : goUp n i leaf P = none := HG.out.trans (by unfold goUp; rw [if_neg (by unfold lvl; rw [HBX.out]; simp [hl, hev])])
            have HGN := Lib.hid hG
            clear hG HG HBX HAX
            go_wp2_with (first
              | ((with_reducible refine at_load 34 (.tmp 7) ?_); refine wpList_load_mid rfl 34 (.tmp 7) rfl gN 0 (by first | rfl | simp [Act.eval]) X _ (Blk.range hx9) Tryd.underlying34 rfl IX.out ?_)
              | ((with_reducible refine at_load 34 (.tmp 10) ?_); refine wpList_load_mid rfl 34 (.tmp 10) rfl gB 0 (by first | rfl | simp [Act.eval]) V _ (Blk.range hv9) Tryd.underlying34 rfl IV.out ?_)
              | ((with_reducible refine at_bldZ 34 #[] ?_); refine wpList_bld rfl 34 #[] rfl #[] (.agg z32.toArray) (by rfl) BZ ?_)
              | ((with_reducible refine at_store 34 (.tmp 4) (.tmp 66) ?_); refine wpList_store_blk rfl 34 (.tmp 4) (.tmp 66) rfl (w.heap.size + 2) z32 z32 34 rfl rfl hz9 rfl I32 O32 ?_; intro y9 hy9 hoy9))
            refine bodyPost_ret (v := .tuple #[.agg z32.toArray, .int .i64 15]) ?_ rfl ?_
            · exact results_in Tryd.results16 _ _ (w.heap.size + 2) 34 _ (0, 0) _ _ (by rfl) (by rfl) hy9 Tryd.underlying34 rfl I32
            · exact ⟨by have he := HUP.out.1 HGN.out; injection he with e1 e2; rw [e1, e2]; rfl, hB9.trans (hoy9.below (by omega))⟩
        · have r1 : Int.tmod (a : Int) 2 = 1 := by rw [Int.tmod_eq_emod_of_nonneg (by omega)]; omega
          have r2 : (a : Int) % 2 = 1 := by omega
          have r3 : IntKind.i64.wrap 1 = 1 := by rw [IntKind.wrap_i64]; omega
          cases hBc : BS
          · rw [hBc] at heq HBX
            have hG : goUp n i leaf P = goUp (wide n (t + 1)) (ix i (t + 1)) (two a x b) (P.drop (t + 1)) := HG.out.trans (by
              conv => lhs; unfold goUp
              rw [if_pos (by unfold lvl; rw [HBX.out]; simp [hl, hev]), HAX.out.1, HAX.out.2])
            have HGN := Lib.hid hG
            have CP := Lib.hid (CPR.out b x HB32.out HX32.out)
            have htw : two a x b = pr b x := by unfold two; rw [if_neg hev]
            obtain ⟨y, hy⟩ : ∃ y, y = pr b x := ⟨_, rfl⟩
            obtain ⟨Y, hY⟩ : ∃ V, V = y.map B8 := ⟨_, rfl⟩
            have y32 : y.length = 32 := by rw [hy]; exact pr_len _ _
            have IY : Hid ((Tryd.prog.info? 34).map (·.size) = some Y.length) := Lib.hid (by rw [hY, List.length_map, y32]; kernel_rfl)
            have LY : Hid (X.length = Y.length) := Lib.hid (by rw [hY, List.length_map, y32, HXX.out, List.length_map, HX32.out])
            have OY : Hid (∀ v ∈ Y, v.oneCell' = true) := Lib.hid (by rw [hY]; exact b8_one _)
            have HYY := Lib.hid hY
            have HY32 := Lib.hid y32
            have HTW := Lib.hid (htw.trans hy.symm)
            have CPY : Hid (∀ W, Calls Tryd.prog 29 #[.agg V.toArray, .agg X.toArray] W (Ret W (.agg Y.toArray))) := Lib.hid fun W => by rw [hY, hy, HXX.out, HVV.out]; exact CP.out W
            clear hG HG HBX HAX CP htw hy hY y32 CPR
            go_wp2_with (first
              | ((with_reducible refine at_load 34 (.tmp 7) ?_); refine wpList_load_mid rfl 34 (.tmp 7) rfl gN 0 (by first | rfl | simp [Act.eval]) X _ (Blk.range hx9) Tryd.underlying34 rfl IX.out ?_)
              | ((with_reducible refine at_load 34 (.tmp 10) ?_); refine wpList_load_mid rfl 34 (.tmp 10) rfl gB 0 (by first | rfl | simp [Act.eval]) V _ (Blk.range hv9) Tryd.underlying34 rfl IV.out ?_)
              | (go_at_call 29; refine (CPY.out _).mono ?_; rintro e' y8 ⟨rfl, e8⟩)
              | ((with_reducible refine at_store 34 (.tmp 7) (.tmp 75) ?_); refine wpList_store_blk rfl 34 (.tmp 7) (.tmp 75) rfl gN X Y 34 rfl rfl (hx9.up e8) LY.out IY.out OY.out ?_; intro y9 hy9 hoy9))
            go_roundw
            case rel => exact ⟨t + 1, y, by go_num, by rw [HIX.out.2], by omega, by rw [← HYY.out]; exact hy9, HY32.out, by rw [HGN.out, HTW.out], hoy9.blk (hs9.up e8) (by omega), hoy9.blk (hz9.up e8) (by omega), (hB9.trans (e8.mono hB9.size)).trans (hoy9.below (by omega))⟩
            case measure => simp [intOf]; omega
          · rw [hBc] at heq HBX
            have hG : goUp n i leaf P = none := HG.out.trans (by unfold goUp; rw [if_neg (by unfold lvl; rw [HBX.out]; simp [hl, hev])])
            have HGN := Lib.hid hG
            clear hG HG HBX HAX
            go_wp2_with (first
              | ((with_reducible refine at_load 34 (.tmp 7) ?_); refine wpList_load_mid rfl 34 (.tmp 7) rfl gN 0 (by first | rfl | simp [Act.eval]) X _ (Blk.range hx9) Tryd.underlying34 rfl IX.out ?_)
              | ((with_reducible refine at_load 34 (.tmp 10) ?_); refine wpList_load_mid rfl 34 (.tmp 10) rfl gB 0 (by first | rfl | simp [Act.eval]) V _ (Blk.range hv9) Tryd.underlying34 rfl IV.out ?_)
              | ((with_reducible refine at_bldZ 34 #[] ?_); refine wpList_bld rfl 34 #[] rfl #[] (.agg z32.toArray) (by rfl) BZ ?_)
              | ((with_reducible refine at_store 34 (.tmp 4) (.tmp 66) ?_); refine wpList_store_blk rfl 34 (.tmp 4) (.tmp 66) rfl (w.heap.size + 2) z32 z32 34 rfl rfl hz9 rfl I32 O32 ?_; intro y9 hy9 hoy9))
            refine bodyPost_ret (v := .tuple #[.agg z32.toArray, .int .i64 15]) ?_ rfl ?_
            · exact results_in Tryd.results16 _ _ (w.heap.size + 2) 34 _ (0, 0) _ _ (by rfl) (by rfl) hy9 Tryd.underlying34 rfl I32
            · exact ⟨by have he := HUP.out.1 HGN.out; injection he with e1 e2; rw [e1, e2]; rfl, hB9.trans (hoy9.below (by omega))⟩
    · have hlt' : ¬ (t : Int) < (m : Int) := by omega
      have htm2 : t = m := by omega
      have hfin : goUp n i leaf P = some x := by
        rw [hgo, List.drop_of_length_le (by rw [HR.out.len]; omega)]
        rfl
      have he := HUP.out.2 x hfin
      injection he with e1 e2
      have HE1 := Lib.hid e1
      subst e2
      have O9 : ∀ v ∈ X, v.oneCell' = true := by rw [HXX.out]; exact b8_one _
      have L9 : z32.length = X.length := by rw [HXX.out, List.length_map, HX32.out]; rfl
      clear hgo hfin e1 htm2 hX hx32 hgg
      go_wp2_with (first
        | ((with_reducible refine at_load 34 (.tmp 7) ?_); refine wpList_load_mid rfl 34 (.tmp 7) rfl gN 0 (by first | rfl | simp [Act.eval]) X _ (Blk.range hxb) Tryd.underlying34 rfl IX.out ?_)
        | ((with_reducible refine at_store 34 (.tmp 4) (.tmp 78) ?_); refine wpList_store_blk rfl 34 (.tmp 4) (.tmp 78) rfl (w.heap.size + 2) z32 X 34 rfl rfl hzb L9 IX.out O9 ?_; intro y9 hy9 hoy9))
      refine bodyPost_ret (v := .tuple #[.agg X.toArray, .int .i64 0]) ?_ rfl ?_
      · exact results_in Tryd.results16 _ _ (w.heap.size + 2) 34 _ (0, 0) _ _ (by rfl) (by rfl) hy9 Tryd.underlying34 rfl IX.out
      · exact ⟨by rw [HE1.out, ← HXX.out], hbel.trans (hoy9.below (by omega))⟩
set_option maxRecDepth 100000 in
theorem dup_calls (c i : Int) (A : Option Addr) (m cap : Nat) (P : List (List UInt8)) (leaf : List UInt8) (w : World) (hr : RdH w A m P) (hl : leaf.length = 32) :
    Calls Tryd.prog 16 #[.agg #[.int .i64 c, .int .i64 i, .slice A m cap], .agg (leaf.map B8).toArray] w (Ret w (.tuple #[.agg ((upE c i P leaf).1.map B8).toArray, .int .i64 ((upE c i P leaf).2 : Int)])) := by
  have hln := hr.len
  by_cases h0 : rgt c i m = 0
  · obtain ⟨g1, g2, g3, g4, g5⟩ := rgt_zero h0
    obtain ⟨n, rfl⟩ : ∃ n : Nat, c = (n : Int) := ⟨c.toNat, by omega⟩
    obtain ⟨j, rfl⟩ : ∃ n : Nat, i = (n : Int) := ⟨i.toNat, by omega⟩
    refine dup_good n j A m cap P leaf _ _ w hr hl (by rw [g5, Int.toNat_natCast]) (by omega) (by omega) (Lib.hid ⟨fun h => ?_, fun x h => ?_⟩)
    · unfold upE
      rw [hln, if_neg (by rw [h0]; simp), Int.toNat_natCast, Int.toNat_natCast, h]
    · unfold upE
      rw [hln, if_neg (by rw [h0]; simp), Int.toNat_natCast, Int.toNat_natCast, h]
  · have e : upE c i P leaf = (List.replicate 32 0, rgt c i m) := by unfold upE; rw [hln, if_pos h0]
    rw [e]
    exact dup_bad c i A m cap _ _ w rfl h0
end Go.Proofs.YtnfcnjboeocnmaaDoor
