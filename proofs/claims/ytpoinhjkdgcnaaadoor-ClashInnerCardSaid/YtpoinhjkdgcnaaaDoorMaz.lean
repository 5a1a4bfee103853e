/- Merged texts: BrnQ. -/
import Derived.Test.YtpoinhjkdgcnaaaDoorMay
/- The contracts of package branch's Up and Check. -/
namespace Go.Proofs.YtpoinhjkdgcnaaaDoor
open Go.RowKit
set_option linter.unusedVariables false
set_option linter.unusedSimpArgs false

set_option maxRecDepth 100000 in
theorem I32G : (Tryd.prog.info? 47).map (·.size) = some z32.length := by kernel_rfl
set_option maxRecDepth 100000 in
theorem BZG (W : World) : (Instr.build 47 #[]).run Tryd.prog W = .ok (.agg z32.toArray) W := run_build W _ _ _ (by kernel_rfl)
set_option maxRecDepth 100000 in
set_option maxHeartbeats 4000000 in
theorem bup_bad (c i : Int) (A : Option Addr) (m cap E : Nat) (LF : List Value) (w : World) (hE : rgt c i m = E) (h0 : ¬ E = 0) : Calls Tryd.prog 37 #[.agg #[.int .i64 c, .int .i64 i, .slice A m cap], .agg LF.toArray] w (Ret w (.tuple #[.agg z32.toArray, .int .i64 (E : Int)])) := by
  have CR : Hid (∀ W, Calls Tryd.prog 31 #[.agg #[.int .i64 c, .int .i64 i, .slice A m cap]] W (Ret W (.int .i64 (E : Int)))) := Lib.hid fun W => by rw [← hE]; exact bright_calls c i A m cap W
  have h1 : ¬ (E : Int) = 0 := by omega
  clear hE
  obtain ⟨w0, hw0⟩ : ∃ x, x = ((w.alloc (.cells #[.int .i64 c, .int .i64 i, .slice A m cap] 26)).alloc (.cells LF.toArray 47)).alloc (.cells z32.toArray 47) := ⟨_, rfl⟩
  have hs0 : w0.heap.size = w.heap.size + 3 := by rw [hw0]; simp
  have hB0 : Below w.heap.size w w0 := by rw [hw0]; exact below_al (below_al (below_al (Below.refl _ _) _) _) _
  have hk0 : Blk w0 w.heap.size [.int .i64 c, .int .i64 i, .slice A m cap] 26 := by rw [hw0]; exact Blk.alloc (Blk.alloc (Blk.new w _ _) _) _
  have hk1 : Blk w0 (w.heap.size + 1) LF 47 := by rw [hw0]; exact Blk.alloc (Blk.new' _ _ _ _ (by simp)) _
  have hk2 : Blk w0 (w.heap.size + 2) z32 47 := by rw [hw0]; exact Blk.new' _ _ _ _ (by simp)
  have hw1 : ((w.alloc (.cells #[.int .i64 c, .int .i64 i, .slice A m cap] 26)).alloc (.cells LF.toArray 47)).alloc (.cells #[.int .u8 0, .int .u8 0, .int .u8 0, .int .u8 0, .int .u8 0, .int .u8 0, .int .u8 0, .int .u8 0, .int .u8 0, .int .u8 0, .int .u8 0, .int .u8 0, .int .u8 0, .int .u8 0, .int .u8 0, .int .u8 0, .int .u8 0, .int .u8 0, .int .u8 0, .int .u8 0, .int .u8 0, .int .u8 0, .int .u8 0, .int .u8 0, .int .u8 0, .int .u8 0, .int .u8 0, .int .u8 0, .int .u8 0, .int .u8 0, .int .u8 0, .int .u8 0] 47) = w0 := hw0.symm
  clear hw0
  go_enter Tryd.func37, Tryd.ntmps37
  go_upto_region 1 with fail
  try rw [hw1]
  clear hw1
  go_wp2_with (first
    | ((with_reducible refine at_load 26 (.tmp 2) ?_); refine wpList_load_mid rfl 26 (.tmp 2) rfl (w.heap.size) (0) (by first | rfl | simp [Act.eval]) [.int .i64 c, .int .i64 i, .slice A m cap] _ (Blk.range hk0) Tryd.underlying26 rfl (by kernel_rfl) ?_)
    | (go_at_call 31; refine (CR.out _).mono ?_; rintro e' x1 ⟨rfl, d1⟩)
    | ((with_reducible refine at_bldZ 47 #[] ?_); refine wpList_bld rfl 47 #[] rfl #[] (.agg z32.toArray) (by rfl) BZG ?_)
    | ((with_reducible refine at_store 47 (.tmp 4) (.tmp 16) ?_); refine wpList_store_blk rfl 47 (.tmp 4) (.tmp 16) rfl (w.heap.size + 2) z32 z32 47 rfl rfl (hk2.up d1) rfl I32G O32 ?_; intro x9 hx9 hox9))
  refine bodyPost_ret (v := .tuple #[.agg z32.toArray, .int .i64 (E : Int)]) ?_ rfl ?_
  · exact results_in Tryd.results37 _ _ (w.heap.size + 2) 47 _ (0, 0) _ _ (by rfl) (by rfl) hx9 Tryd.underlying47 rfl I32G
  · exact ⟨rfl, (below_more hB0 d1).trans (hox9.below (by omega))⟩
set_option maxRecDepth 100000 in
set_option maxHeartbeats 4000000 in
theorem bup_good (n i : Nat) (A : Option Addr) (m cap : Nat) (P : List (List UInt8)) (leaf : List UInt8) (U : List UInt8) (EE : Nat) (w : World) (hr : RdH w A m P) (hT : Tab w) (hl : leaf.length = 32) (hm : m = depth n) (hi : i < n) (hn : n ≤ 65536)
    (HUP : Hid ((goUp n i leaf P = none → (U, EE) = (List.replicate 32 0, 15)) ∧ (∀ x, goUp n i leaf P = some x → (U, EE) = (x, 0)))) : Calls Tryd.prog 37 #[.agg #[.int .i64 (n : Int), .int .i64 (i : Int), .slice A m cap], .agg (leaf.map B8).toArray] w (Ret w (.tuple #[.agg (U.map B8).toArray, .int .i64 (EE : Int)])) := by
  have hm16 : m ≤ 16 := by rw [hm]; exact depth_16 n hn
  have hrg : rgt (n : Int) (i : Int) m = 0 := by unfold rgt; rw [if_neg (by omega), if_neg (by rw [hm, Int.toNat_natCast]; simp)]
  have CR : Hid (∀ W, Calls Tryd.prog 31 #[.agg #[.int .i64 (n : Int), .int .i64 (i : Int), .slice A m cap]] W (Ret W (.int .i64 0))) := Lib.hid fun W => by have := bright_calls (n : Int) (i : Int) A m cap W; rw [hrg] at this; exact this
  clear hrg
  have CPR : Hid (∀ (k : Nat) (x b : List UInt8), x.length = 32 → b.length = 32 → k ≤ 65536 → ∀ W, Below w.heap.size w W → Calls Tryd.prog 48 #[.agg (x.map B8).toArray, .agg (b.map B8).toArray, .int .i64 (k : Int)] W (Ret W (.agg ((two k x b).map B8).toArray))) := Lib.hid fun k x b hx hb hk W hW => btwo_calls k x b W hx hb hk (hT.all hW)
  obtain ⟨LF, hLF⟩ : ∃ V, V = leaf.map B8 := ⟨_, rfl⟩
  have IL : Hid ((Tryd.prog.info? 47).map (·.size) = some LF.length) := Lib.hid (by rw [hLF, List.length_map, hl]; kernel_rfl)
  have LL : Hid (z32.length = LF.length) := Lib.hid (by rw [hLF, List.length_map, hl]; rfl)
  have OL : Hid (∀ v ∈ LF, v.oneCell' = true) := Lib.hid (by rw [hLF]; exact b8_one _)
  have HLF := Lib.hid hLF
  have HL := Lib.hid hl
  have HR := Lib.hid hr
  have hln := hr.len
  have hww := fun t => ix_lt n i hi t
  have HIXL := Lib.hid hww
  rw [← hLF]
  clear hLF hl hr hm hww hT
  obtain ⟨w0, hw0⟩ : ∃ x, x = ((w.alloc (.cells #[.int .i64 (n : Int), .int .i64 (i : Int), .slice A m cap] 26)).alloc (.cells LF.toArray 47)).alloc (.cells z32.toArray 47) := ⟨_, rfl⟩
  have hs0 : w0.heap.size = w.heap.size + 3 := by rw [hw0]; simp
  have hB0 : Below w.heap.size w w0 := by rw [hw0]; exact below_al (below_al (below_al (Below.refl _ _) _) _) _
  have hk0 : Blk w0 w.heap.size [.int .i64 (n : Int), .int .i64 (i : Int), .slice A m cap] 26 := by rw [hw0]; exact Blk.alloc (Blk.alloc (Blk.new w _ _) _) _
  have hk1 : Blk w0 (w.heap.size + 1) LF 47 := by rw [hw0]; exact Blk.alloc (Blk.new' _ _ _ _ (by simp)) _
  have hk2 : Blk w0 (w.heap.size + 2) z32 47 := by rw [hw0]; exact Blk.new' _ _ _ _ (by simp)
  have hw1 : ((w.alloc (.cells #[.int .i64 (n : Int), .int .i64 (i : Int), .slice A m cap] 26)).alloc (.cells LF.toArray 47)).alloc (.cells #[.int .u8 0, .int .u8 0, .int .u8 0, .int .u8 0, .int .u8 0, .int .u8 0, .int .u8 0, .int .u8 0, .int .u8 0, .int .u8 0, .int .u8 0, .int .u8 0, .int .u8 0, .int .u8 0, .int .u8 0, .int .u8 0, .int .u8 0, .int .u8 0, .int .u8 0, .int .u8 0, .int .u8 0, .int .u8 0, .int .u8 0, .int .u8 0, .int .u8 0, .int .u8 0, .int .u8 0, .int .u8 0, .int .u8 0, .int .u8 0, .int .u8 0, .int .u8 0] 47) = w0 := hw0.symm
  clear hw0
  go_enter Tryd.func37, Tryd.ntmps37
  go_upto_region 1 with fail
  try rw [hw1]
  clear hw1
  go_upto_region 4 with (first
    | ((with_reducible refine at_load 26 (.tmp 2) ?_); refine wpList_load_mid rfl 26 (.tmp 2) rfl (w.heap.size) (0) (by first | rfl | simp [Act.eval]) [.int .i64 (n : Int), .int .i64 (i : Int), .slice A m cap] _ (Blk.range hk0) Tryd.underlying26 rfl (by kernel_rfl) ?_)
    | (go_at_call 31; refine (CR.out _).mono ?_; rintro e' x1 ⟨rfl, d1⟩))
  have hB1 := below_more hB0 d1
  have hk0 := hk0.up d1
  have hk1 := hk1.up d1
  have hk2 := hk2.up d1
  have K4 : Hid (∀ W, Below w.heap.size w W → Blk W w.heap.size [.int .i64 (n : Int), .int .i64 (i : Int), .slice A m cap] 26 → Blk W (w.heap.size + 1) LF 47 → Below w.heap.size w W ∧ W.rangeAt (w.heap.size + 1) 0 LF ∧ W.cell? ⟨w.heap.size, 1, none⟩ = some (.int .i64 (i : Int)) ∧ W.cell? ⟨w.heap.size, 0, none⟩ = some (.int .i64 (n : Int))) := Lib.hid fun W h h0 h1 => ⟨h, h1.range, h0.cell 1, h0.cell 0⟩
  have sx1 := d1.size
  have sd1 : x1.drew.heap.size = x1.heap.size := rfl
  refine wp_region_held_drew (S := fun W => Below w.heap.size w W ∧ W.rangeAt (w.heap.size + 1) 0 LF ∧ W.cell? ⟨w.heap.size, 1, none⟩ = some (.int .i64 (i : Int)) ∧ W.cell? ⟨w.heap.size, 0, none⟩ = some (.int .i64 (n : Int))) (by kernel_rfl) ?_ (fun hHeld => ?_)
  · exact K4.out _ (by first | assumption | exact hB1.drew) (by first | exact hk0.drew | exact hk0.drew.stepF (by assumption)) (by first | exact hk1.drew | exact hk1.drew.stepF (by assumption))
  refine wpAnyH_take (i := 0) rfl (by kernel_rfl) (by kernel_rfl) (by kernel_rfl) (fun _ _ _ h => h) (yieldsIf_load_mid (by rfl) _ _ rfl _ _ rfl LF _ (fun w hSw => by (try dsimp only at hSw); go_split_ands; assumption) Tryd.underlying47 rfl IL.out) (by assumption) ?_
  (try simp only [List.getElem_toArray, List.getElem_cons_succ, List.getElem_cons_zero, Act.put, List.setIfInBounds_toArray, List.set_cons_succ, List.set_cons_zero])
  refine wpAnyH_take (i := 1) (v := ?_) rfl (by kernel_rfl) (by kernel_rfl) (by kernel_rfl) (fun _ _ _ h => h) (Or.inl ⟨by rfl, ?_⟩) (by assumption) ?_
  rotate_left 1
  · intro w hSw; (try dsimp only at hSw); simp only [List.getElem_toArray, List.getElem_cons_succ, List.getElem_cons_zero]; go_simp; try (with_reducible rfl)
  (try simp only [List.getElem_toArray, List.getElem_cons_succ, List.getElem_cons_zero, Act.put, List.setIfInBounds_toArray, List.set_cons_succ, List.set_cons_zero])
  refine wpAnyH_take (i := 2) (v := ?_) rfl (by kernel_rfl) (by kernel_rfl) (by kernel_rfl) (fun _ _ _ h => h) (Or.inl ⟨by rfl, ?_⟩) (by assumption) ?_
  rotate_left 1
  · intro w hSw; (try dsimp only at hSw); simp only [List.getElem_toArray, List.getElem_cons_succ, List.getElem_cons_zero]; go_simp; try (with_reducible rfl)
  (try simp only [List.getElem_toArray, List.getElem_cons_succ, List.getElem_cons_zero, Act.put, List.setIfInBounds_toArray, List.set_cons_succ, List.set_cons_zero])
  refine wpAnyH_take (i := 3) (v := ?_) rfl (by kernel_rfl) (by kernel_rfl) (by kernel_rfl) (fun _ _ _ h => h) (Or.inl ⟨by rfl, ?_⟩) (by assumption) ?_
  rotate_left 1
  · intro w hSw; (try dsimp only at hSw); simp only [List.getElem_toArray, List.getElem_cons_succ, List.getElem_cons_zero]; go_simp; try (with_reducible rfl)
  (try simp only [List.getElem_toArray, List.getElem_cons_succ, List.getElem_cons_zero, Act.put, List.setIfInBounds_toArray, List.set_cons_succ, List.set_cons_zero])
  refine wpAnyH_take (i := 4) (v := ?_) rfl (by kernel_rfl) (by kernel_rfl) (by kernel_rfl) (fun _ _ _ h => h) (Or.inl ⟨by rfl, ?_⟩) (by assumption) ?_
  rotate_left 1
  · intro w hSw; (try dsimp only at hSw); simp only [List.getElem_toArray, List.getElem_cons_succ, List.getElem_cons_zero]; go_simp; try (with_reducible rfl)
  (try simp only [List.getElem_toArray, List.getElem_cons_succ, List.getElem_cons_zero, Act.put, List.setIfInBounds_toArray, List.set_cons_succ, List.set_cons_zero])
  refine wpAnyH_ready (rs := [5]) (by kernel_rfl) (by simp) ?_
  refine AllReadyH.cons rfl (fun K hK => ?_) AllReadyH.nil
  (try simp only [List.getElem_toArray, List.getElem_cons_succ, List.getElem_cons_zero])
  refine Eq.mpr (if_pos (by first | rfl | simp [Region.wanted, yielded, Act.put])) ?_
  refine wp_allocT 47 z32 (by kernel_rfl) rfl w.heap.size w (by first | assumption | exact (by assumption : Below _ _ _).drew) (Nat.le_refl _) ?_
  intro g4 x4 hb4 hg4 hl4 hf4 hB4
  refine hK.out _ _ ?_ (fun hHeld => ?_)
  · exact K4.out _ (by first | assumption | exact hB1.drew) (by first | exact hk0.drew | exact hk0.drew.stepF (by assumption)) (by first | exact hk1.drew | exact hk1.drew.stepF (by assumption))
  clear hK K
  (try simp only [Act.put, List.setIfInBounds_toArray, List.set_cons_succ, List.set_cons_zero])
  refine wpAnyH_ready (rs := [6]) (by kernel_rfl) (by simp) ?_
  refine AllReadyH.cons rfl (fun K hK => ?_) AllReadyH.nil
  (try simp only [List.getElem_toArray, List.getElem_cons_succ, List.getElem_cons_zero])
  refine Eq.mpr (if_pos (by first | rfl | simp [Region.wanted, yielded, Act.put])) ?_
  refine wp_store_in 47 (.tmp 7) (.tmp 18) rfl g4 z32 LF 47 rfl rfl hb4 LL.out IL.out OL.out ?_
  intro x5 hb5 ho5
  have hB5 : Below w.heap.size w x5 := hB4.trans (ho5.below (by omega))
  refine hK.out _ _ ?_ (fun hHeld => ?_)
  · exact K4.out _ hB5 (ho5.blk (hk0.drew.stepF hf4) (by omega)) (ho5.blk (hk1.drew.stepF hf4) (by omega))
  clear hK K
  (try simp only [Act.put, List.setIfInBounds_toArray, List.set_cons_succ, List.set_cons_zero])
  refine wpAnyH_take (i := 7) (v := ?_) rfl (by kernel_rfl) (by kernel_rfl) (by kernel_rfl) (fun _ _ _ h => h) (Or.inl ⟨by rfl, ?_⟩) (by assumption) ?_
  rotate_left 1
  · intro w hSw; (try dsimp only at hSw); simp only [List.getElem_toArray, List.getElem_cons_succ, List.getElem_cons_zero]; go_simp; try (with_reducible rfl)
  (try simp only [List.getElem_toArray, List.getElem_cons_succ, List.getElem_cons_zero, Act.put, List.setIfInBounds_toArray, List.set_cons_succ, List.set_cons_zero])
  refine wpAnyH_take (i := 8) (v := ?_) rfl (by kernel_rfl) (by kernel_rfl) (by kernel_rfl) (fun _ _ _ h => h) (Or.inl ⟨by rfl, ?_⟩) (by assumption) ?_
  rotate_left 1
  · intro w hSw; (try dsimp only at hSw); simp only [List.getElem_toArray, List.getElem_cons_succ, List.getElem_cons_zero]; go_simp; try (with_reducible rfl)
  (try simp only [List.getElem_toArray, List.getElem_cons_succ, List.getElem_cons_zero, Act.put, List.setIfInBounds_toArray, List.set_cons_succ, List.set_cons_zero])
  refine wpAnyH_done (by kernel_rfl) ?_ _
  have hz5 := ho5.blk (hk2.drew.stepF hf4) (by omega)
  have hk05 := ho5.blk (hk0.drew.stepF hf4) (by omega)
  have sc5 : x5.cell? ⟨w.heap.size, 2, none⟩ = some (.slice A m cap) := hk05.cell 2
  have hgN : w.heap.size + 3 ≤ g4 := by omega
  clear hb4 hg4 hl4 hf4 hB4 ho5 hk0 hk1 hk2 hB1 hB0 d1 K4 CR
  go_wp2
  go_loopw [26, 8, 9] (fun lv pv cv wr => ∃ (t : Nat) (x : List UInt8), lv = .int .i64 (t : Int) ∧ pv = .int .i64 ((ix i t : Nat) : Int) ∧ cv = .int .i64 ((wide n t : Nat) : Int) ∧ t ≤ m ∧ Blk wr g4 (x.map B8) 47 ∧ x.length = 32 ∧ goUp n i leaf P = goUp (wide n t) (ix i t) x (P.drop t) ∧ Blk wr (w.heap.size + 2) z32 47 ∧ Below w.heap.size w wr) (fun lv _ _ _ => m - (intOf lv).toNat)
  case atStart => exact ⟨0, leaf, by first | rfl | go_num, rfl, rfl, by omega, by rw [← HLF.out]; exact hb5, HL.out, rfl, hz5, hB5⟩
  case round =>
    obtain ⟨t, x, rfl, rfl, rfl, htm, hxb, hx32, hgo, hzb, hbel⟩ := hrel
    obtain ⟨gN, hgg⟩ : ∃ g, g = g4 := ⟨_, rfl⟩
    rw [← hgg] at hxb hgN ⊢
    obtain ⟨X, hX⟩ : ∃ V, V = x.map B8 := ⟨_, rfl⟩
    rw [← hX] at hxb
    have IX : Hid ((Tryd.prog.info? 47).map (·.size) = some X.length) := Lib.hid (by rw [hX, List.length_map, hx32]; kernel_rfl)
    have HXX := Lib.hid hX
    have HX32 := Lib.hid hx32
    by_cases hlt : t < m
    · have hlt' : (t : Int) < (m : Int) := by omega
      obtain ⟨a, ha⟩ : ∃ a, a = ix i t := ⟨_, rfl⟩
      obtain ⟨a', ha'⟩ : ∃ a', a' = a / 2 := ⟨_, rfl⟩
      obtain ⟨b, hb⟩ : ∃ b, b = hat P t := ⟨_, rfl⟩
      obtain ⟨wt, hwt⟩ : ∃ x, x = wide n t := ⟨_, rfl⟩
      obtain ⟨wt1, hwt1⟩ : ∃ x, x = wt + 1 := ⟨_, rfl⟩
      obtain ⟨wn, hwn⟩ : ∃ x, x = wt1 / 2 := ⟨_, rfl⟩
      have hawt : a < wt := by rw [ha, hwt]; exact HIXL.out t
      have hwt6 : wt ≤ 65537 := by rw [hwt]; have := wide_le n t; omega
      have b32 : b.length = 32 := by rw [hb]; exact hat_32 HR.out.all (by rw [HR.out.len]; exact hlt)
      obtain ⟨V, hV⟩ : ∃ V, V = b.map B8 := ⟨_, rfl⟩
      have IV : Hid ((Tryd.prog.info? 47).map (·.size) = some V.length) := Lib.hid (by rw [hV, List.length_map, b32]; kernel_rfl)
      have LV : Hid (z32.length = V.length) := Lib.hid (by rw [hV, List.length_map, b32]; rfl)
      have OV : Hid (∀ v ∈ V, v.oneCell' = true) := Lib.hid (by rw [hV]; exact b8_one _)
      obtain ⟨bb, off, rfl, hblt, hga⟩ := (HR.out.below hbel).at_ hlt
      rw [← hb, ← hV] at hga
      obtain ⟨BS, hBS⟩ : ∃ B, B = decide (x = b) := ⟨_, rfl⟩
      have heq : ∀ W, (Op.equalIn 10000 47 (.agg V.toArray) (.agg X.toArray)).run Tryd.prog W = .ok BS W := fun W => by rw [hX, hV]; exact eqG32 b x b32 hx32 BS (by rw [hBS, decide_eq_decide]; exact eq_comm) W
      have HBX : Hid (decide (x = b) = BS) := Lib.hid hBS.symm
      obtain ⟨SG, hSG⟩ : ∃ B, B = decide (a + 1 = wt ∧ a % 2 = 0) := ⟨_, rfl⟩
      have HSG : Hid (decide (a + 1 = wt ∧ a % 2 = 0) = SG) := Lib.hid hSG.symm
      have CSg : Hid (∀ W, Calls Tryd.prog 47 #[.int .i64 (a : Int), .int .i64 (wt : Int)] W (Ret W (.bool SG))) := Lib.hid fun W => by rw [hSG]; exact single_calls a wt hawt hwt6 W
      have hdrop : P.drop t = b :: P.drop (t + 1) := by
        have ht : t < P.length := by rw [HR.out.len]; exact hlt
        rw [List.drop_eq_getElem_cons ht, hb]
        congr 1
        unfold hat
        rw [List.getD_eq_getElem?_getD, List.getElem?_eq_getElem ht]
        rfl
      have HG : Hid (goUp n i leaf P = goUp wt a x (b :: P.drop (t + 1))) := Lib.hid (by rw [hgo, hdrop, ← hwt, ← ha])
      have HAX : Hid ((wt + 1) / 2 = wide n (t + 1) ∧ a / 2 = ix i (t + 1)) := Lib.hid ⟨by rw [hwt]; rfl, by rw [ha]; rfl⟩
      have HIX : Hid (a = ix i t ∧ ix i (t + 1) = a') := Lib.hid ⟨ha, by rw [ha', ha]; rfl⟩
      have HWX : Hid (wide n (t + 1) = wn) := Lib.hid (by rw [hwn, hwt1, hwt]; rfl)
      obtain ⟨y, hy⟩ : ∃ y, y = two a x b := ⟨_, rfl⟩
      obtain ⟨Y, hY⟩ : ∃ V, V = y.map B8 := ⟨_, rfl⟩
      have y32 : y.length = 32 := by rw [hy]; exact two_len _ _ _
      have IY : Hid ((Tryd.prog.info? 47).map (·.size) = some Y.length) := Lib.hid (by rw [hY, List.length_map, y32]; kernel_rfl)
      have LY : Hid (X.length = Y.length) := Lib.hid (by rw [hY, List.length_map, y32, hX, List.length_map, hx32])
      have OY : Hid (∀ v ∈ Y, v.oneCell' = true) := Lib.hid (by rw [hY]; exact b8_one _)
      have HYY := Lib.hid hY
      have HY32 := Lib.hid y32
      have HTW : Hid (two a x b = y) := Lib.hid hy.symm
      have ha65 : a ≤ 65536 := by omega
      have CPY : Hid (∀ W, Below w.heap.size w W → Calls Tryd.prog 48 #[.agg X.toArray, .agg V.toArray, .int .i64 (a : Int)] W (Ret W (.agg Y.toArray))) := Lib.hid fun W h => by rw [hY, hy, hX, hV]; exact CPR.out a x b hx32 b32 ha65 W h
      have q1 : Int.tdiv (a : Int) 2 = (a' : Int) := by rw [Int.tdiv_eq_ediv_of_nonneg (by omega)]; omega
      have q2 : (a : Int) / 2 = (a' : Int) := by omega
      have q3 : IntKind.i64.wrap (a' : Int) = (a' : Int) := by rw [IntKind.wrap_i64]; omega
      have q4 : IntKind.i64.wrap ((wt : Int) + 1) = (wt1 : Int) := by rw [IntKind.wrap_i64]; omega
      have q5 : Int.tdiv (wt1 : Int) 2 = (wn : Int) := by rw [Int.tdiv_eq_ediv_of_nonneg (by omega)]; omega
      have q6 : (wt1 : Int) / 2 = (wn : Int) := by omega
      have q7 : IntKind.i64.wrap (wn : Int) = (wn : Int) := by rw [IntKind.wrap_i64]; omega
      have K8 : Hid (∀ (gB : Nat) (W : World), Blk W gB V 47 → Blk W gN X 47 → W.rangeAt gB 0 V ∧ W.rangeAt gN 0 X) := Lib.hid fun gB W h1 h2 => ⟨h1.range, h2.range⟩
      have sbl := hbel.size
      rw [← ha, ← hwt]
      clear hgo hdrop ha hb hwt hX hx32 hV b32 hBS hSG ha' hgg hy hY y32 CPR hwt1 hwn
      obtain ⟨wo, hwo⟩ : ∃ x, x = wr := ⟨_, rfl⟩
      rw [← hwo] at hxb hzb hbel hblt hga sbl ⊢
      clear hwo
      have hxbl := hxb.lt
      go_upto_region 8 with (first
        | ((with_reducible refine at_load 47 (.tmp 28) ?_); refine wpList_load_mid rfl 47 (.tmp 28) rfl (bb) (off + t * 32) (by first | rfl | simp [Act.eval]) V _ (hga) Tryd.underlying47 rfl IV.out ?_)
        | ((with_reducible refine at_alloc 47 ?_); refine wpList_allocT rfl 47 z32 (by kernel_rfl) rfl w.heap.size w hbel (Nat.le_refl _) ?_; intro gB z0 hbB hgB hlB hfB hBB)
        | ((with_reducible refine at_store 47 (.tmp 11) (.tmp 29) ?_); refine wpList_store_blk rfl 47 (.tmp 11) (.tmp 29) rfl (gB) z32 V 47 rfl rfl (hbB) LV.out IV.out OV.out ?_; intro z1 hz1 hoz1))
      have hv1 := hz1
      have hB1 : Below w.heap.size w z1 := hBB.trans (hoz1.below (by omega))
      have hx1 := hoz1.blk (hxb.stepF hfB) (by omega)
      have hz1 := hoz1.blk (hzb.stepF hfB) (by omega)
      have K8 := Lib.hid (K8.out gB)
      clear hbB hlB hfB hBB hoz1 hxb hzb hbel hga hblt
      cases hBc : BS
      · rw [hBc] at heq HBX
        cases hSc : SG
        · rw [hSc] at CSg HSG
          have hG : goUp n i leaf P = goUp (wide n (t + 1)) (ix i (t + 1)) (two a x b) (P.drop (t + 1)) := HG.out.trans (by
            conv => lhs; unfold goUp
            rw [if_pos (by unfold lvl; rw [HBX.out, HSG.out]; rfl), HAX.out.1, HAX.out.2])
          have HGN := Lib.hid hG
          clear hG HG HBX HAX HSG
          refine wp_region_held_drew (S := fun W => W.rangeAt gB 0 V ∧ W.rangeAt gN 0 X) (by kernel_rfl) ?_ (fun hHeld => ?_)
          · exact K8.out _ (by first | exact hv1.drew | exact hv1.drew.up f5) (by first | exact hx1.drew | exact hx1.drew.up f5)
          refine wpAnyH_take (i := 0) rfl (by kernel_rfl) (by kernel_rfl) (by kernel_rfl) (fun _ _ _ h => h) (yieldsIf_load_mid (by rfl) _ _ rfl _ _ rfl V _ (fun w hSw => by (try dsimp only at hSw); go_split_ands; assumption) Tryd.underlying47 rfl IV.out) (by assumption) ?_
          (try simp only [List.getElem_toArray, List.getElem_cons_succ, List.getElem_cons_zero, Act.put, List.setIfInBounds_toArray, List.set_cons_succ, List.set_cons_zero])
          refine wpAnyH_take (i := 1) rfl (by kernel_rfl) (by kernel_rfl) (by kernel_rfl) (fun _ _ _ h => h) (yieldsIf_load_mid (by rfl) _ _ rfl _ _ rfl X _ (fun w hSw => by (try dsimp only at hSw); go_split_ands; assumption) Tryd.underlying47 rfl IX.out) (by assumption) ?_
          (try simp only [List.getElem_toArray, List.getElem_cons_succ, List.getElem_cons_zero, Act.put, List.setIfInBounds_toArray, List.set_cons_succ, List.set_cons_zero])
          refine wpAnyH_take (i := 2) (v := ?_) rfl (by kernel_rfl) (by kernel_rfl) (by kernel_rfl) (fun _ _ _ h => h) (Or.inl ⟨by rfl, ?_⟩) (by assumption) ?_
          rotate_left 1
          · intro w hSw; (try dsimp only at hSw); simp only [List.getElem_toArray, List.getElem_cons_succ, List.getElem_cons_zero]; go_simp; try (with_reducible rfl)
          (try simp only [List.getElem_toArray, List.getElem_cons_succ, List.getElem_cons_zero, Act.put, List.setIfInBounds_toArray, List.set_cons_succ, List.set_cons_zero])
          refine wpAnyH_take (i := 3) (v := ?_) rfl (by kernel_rfl) (by kernel_rfl) (by kernel_rfl) (fun _ _ _ h => h) (Or.inl ⟨by rfl, ?_⟩) (by assumption) ?_
          rotate_left 1
          · intro w hSw; (try dsimp only at hSw); simp only [List.getElem_toArray, List.getElem_cons_succ, List.getElem_cons_zero]; go_simp; try (with_reducible rfl)
          (try simp only [List.getElem_toArray, List.getElem_cons_succ, List.getElem_cons_zero, Act.put, List.setIfInBounds_toArray, List.set_cons_succ, List.set_cons_zero])
          refine wpAnyH_take (i := 4) (v := ?_) rfl (by kernel_rfl) (by kernel_rfl) (by kernel_rfl) (fun _ _ _ h => h) (Or.inl ⟨by rfl, ?_⟩) (by assumption) ?_
          rotate_left 1
          · intro w hSw; (try dsimp only at hSw); simp only [List.getElem_toArray, List.getElem_cons_succ, List.getElem_cons_zero]; go_simp; try (with_reducible rfl)
          (try simp only [List.getElem_toArray, List.getElem_cons_succ, List.getElem_cons_zero, Act.put, List.setIfInBounds_toArray, List.set_cons_succ, List.set_cons_zero])
          refine wpAnyH_ready (rs := [5]) (by kernel_rfl) (by simp) ?_
          refine AllReadyH.cons rfl (fun K hK => ?_) AllReadyH.nil
          (try simp only [List.getElem_toArray, List.getElem_cons_succ, List.getElem_cons_zero])
          go_simp
          go_at_call 47; refine (CSg.out _).mono ?_; rintro e' y5 ⟨rfl, f5⟩
          (try (go_wp2_with fail))
          refine hK.out _ _ ?_ (fun hHeld => ?_)
          · exact K8.out _ (by first | exact hv1.drew | exact hv1.drew.up f5) (by first | exact hx1.drew | exact hx1.drew.up f5)
          clear hK K
          (try simp only [Act.put, List.setIfInBounds_toArray, List.set_cons_succ, List.set_cons_zero])
          refine wpAnyH_take (i := 6) (v := ?_) rfl (by kernel_rfl) (by kernel_rfl) (by kernel_rfl) (fun _ _ _ h => h) (Or.inl ⟨by rfl, ?_⟩) (by assumption) ?_
          rotate_left 1
          · intro w hSw; (try dsimp only at hSw); simp only [List.getElem_toArray, List.getElem_cons_succ, List.getElem_cons_zero]; go_simp; try (with_reducible rfl)
          (try simp only [List.getElem_toArray, List.getElem_cons_succ, List.getElem_cons_zero, Act.put, List.setIfInBounds_toArray, List.set_cons_succ, List.set_cons_zero])
          refine wpAnyH_done (by kernel_rfl) ?_ _
          have hx9 := hx1.drew.up f5
          have hv9 := hv1.drew.up f5
          have hz9 := hz1.drew.up f5
          have hB9 := below_more (below_dr hB1) f5
          clear hx1 hv1 hz1 hB1 f5 K8
          go_wp2_with (first
            | ((with_reducible refine at_load 47 (.tmp 7) ?_); refine wpList_load_mid rfl 47 (.tmp 7) rfl (gN) (0) (by first | rfl | simp [Act.eval]) X _ (Blk.range hx9) Tryd.underlying47 rfl IX.out ?_)
            | ((with_reducible refine at_load 47 (.tmp 11) ?_); refine wpList_load_mid rfl 47 (.tmp 11) rfl (gB) (0) (by first | rfl | simp [Act.eval]) V _ (Blk.range hv9) Tryd.underlying47 rfl IV.out ?_)
            | (go_at_call 48; refine (CPY.out _ hB9).mono ?_; rintro e' y8 ⟨rfl, e8⟩)
            | ((with_reducible refine at_store 47 (.tmp 7) (.tmp 41) ?_); refine wpList_store_blk rfl 47 (.tmp 7) (.tmp 41) rfl (gN) X Y 47 rfl rfl (hx9.up e8) LY.out IY.out OY.out ?_; intro y9 hy9 hoy9))
          go_roundw
          case rel => exact ⟨t + 1, y, by go_num, by rw [HIX.out.2], by rw [HWX.out], by omega, by rw [← HYY.out]; exact hy9, HY32.out, by rw [HGN.out, HTW.out], hoy9.blk (hz9.up e8) (by omega), (below_more hB9 e8).trans (hoy9.below (by omega))⟩
          case measure => simp [intOf]; omega
        · rw [hSc] at CSg HSG
          have hG : goUp n i leaf P = none := HG.out.trans (by
            unfold goUp
            rw [if_neg (by unfold lvl; rw [HBX.out, HSG.out]; decide)])
          have HGN := Lib.hid hG
          clear hG HG HBX HAX HSG
          refine wp_region_held_drew (S := fun W => W.rangeAt gB 0 V ∧ W.rangeAt gN 0 X) (by kernel_rfl) ?_ (fun hHeld => ?_)
          · exact K8.out _ (by first | exact hv1.drew | exact hv1.drew.up f5) (by first | exact hx1.drew | exact hx1.drew.up f5)
          refine wpAnyH_take (i := 0) rfl (by kernel_rfl) (by kernel_rfl) (by kernel_rfl) (fun _ _ _ h => h) (yieldsIf_load_mid (by rfl) _ _ rfl _ _ rfl V _ (fun w hSw => by (try dsimp only at hSw); go_split_ands; assumption) Tryd.underlying47 rfl IV.out) (by assumption) ?_
          (try simp only [List.getElem_toArray, List.getElem_cons_succ, List.getElem_cons_zero, Act.put, List.setIfInBounds_toArray, List.set_cons_succ, List.set_cons_zero])
          refine wpAnyH_take (i := 1) rfl (by kernel_rfl) (by kernel_rfl) (by kernel_rfl) (fun _ _ _ h => h) (yieldsIf_load_mid (by rfl) _ _ rfl _ _ rfl X _ (fun w hSw => by (try dsimp only at hSw); go_split_ands; assumption) Tryd.underlying47 rfl IX.out) (by assumption) ?_
          (try simp only [List.getElem_toArray, List.getElem_cons_succ, List.getElem_cons_zero, Act.put, List.setIfInBounds_toArray, List.set_cons_succ, List.set_cons_zero])
          refine wpAnyH_take (i := 2) (v := ?_) rfl (by kernel_rfl) (by kernel_rfl) (by kernel_rfl) (fun _ _ _ h => h) (Or.inl ⟨by rfl, ?_⟩) (by assumption) ?_
          rotate_left 1
          · intro w hSw; (try dsimp only at hSw); simp only [List.getElem_toArray, List.getElem_cons_succ, List.getElem_cons_zero]; go_simp; try (with_reducible rfl)
          (try simp only [List.getElem_toArray, List.getElem_cons_succ, List.getElem_cons_zero, Act.put, List.setIfInBounds_toArray, List.set_cons_succ, List.set_cons_zero])
          refine wpAnyH_take (i := 3) (v := ?_) rfl (by kernel_rfl) (by kernel_rfl) (by kernel_rfl) (fun _ _ _ h => h) (Or.inl ⟨by rfl, ?_⟩) (by assumption) ?_
          rotate_left 1
          · intro w hSw; (try dsimp only at hSw); simp only [List.getElem_toArray, List.getElem_cons_succ, List.getElem_cons_zero]; go_simp; try (with_reducible rfl)
          (try simp only [List.getElem_toArray, List.getElem_cons_succ, List.getElem_cons_zero, Act.put, List.setIfInBounds_toArray, List.set_cons_succ, List.set_cons_zero])
          refine wpAnyH_take (i := 4) (v := ?_) rfl (by kernel_rfl) (by kernel_rfl) (by kernel_rfl) (fun _ _ _ h => h) (Or.inl ⟨by rfl, ?_⟩) (by assumption) ?_
          rotate_left 1
          · intro w hSw; (try dsimp only at hSw); simp only [List.getElem_toArray, List.getElem_cons_succ, List.getElem_cons_zero]; go_simp; try (with_reducible rfl)
          (try simp only [List.getElem_toArray, List.getElem_cons_succ, List.getElem_cons_zero, Act.put, List.setIfInBounds_toArray, List.set_cons_succ, List.set_cons_zero])
          refine wpAnyH_ready (rs := [5]) (by kernel_rfl) (by simp) ?_
          refine AllReadyH.cons rfl (fun K hK => ?_) AllReadyH.nil
          (try simp only [List.getElem_toArray, List.getElem_cons_succ, List.getElem_cons_zero])
          go_simp
          go_at_call 47; refine (CSg.out _).mono ?_; rintro e' y5 ⟨rfl, f5⟩
          (try (go_wp2_with fail))
          refine hK.out _ _ ?_ (fun hHeld => ?_)
          · exact K8.out _ (by first | exact hv1.drew | exact hv1.drew.up f5) (by first | exact hx1.drew | exact hx1.drew.up f5)
          clear hK K
          (try simp only [Act.put, List.setIfInBounds_toArray, List.set_cons_succ, List.set_cons_zero])
          refine wpAnyH_take (i := 6) (v := ?_) rfl (by kernel_rfl) (by kernel_rfl) (by kernel_rfl) (fun _ _ _ h => h) (Or.inl ⟨by rfl, ?_⟩) (by assumption) ?_
          rotate_left 1
          · intro w hSw; (try dsimp only at hSw); simp only [List.getElem_toArray, List.getElem_cons_succ, List.getElem_cons_zero]; go_simp; try (with_reducible rfl)
          (try simp only [List.getElem_toArray, List.getElem_cons_succ, List.getElem_cons_zero, Act.put, List.setIfInBounds_toArray, List.set_cons_succ, List.set_cons_zero])
          refine wpAnyH_done (by kernel_rfl) ?_ _
          have hx9 := hx1.drew.up f5
          have hv9 := hv1.drew.up f5
          have hz9 := hz1.drew.up f5
          have hB9 := below_more (below_dr hB1) f5
          clear hx1 hv1 hz1 hB1 f5 K8
          go_wp2_with (first
            | ((with_reducible refine at_bldZ 47 #[] ?_); refine wpList_bld rfl 47 #[] rfl #[] (.agg z32.toArray) (by rfl) BZG ?_)
            | ((with_reducible refine at_store 47 (.tmp 4) (.tmp 37) ?_); refine wpList_store_blk rfl 47 (.tmp 4) (.tmp 37) rfl (w.heap.size + 2) z32 z32 47 rfl rfl (hz9) rfl I32G O32 ?_; intro y9 hy9 hoy9))
          refine bodyPost_ret (v := .tuple #[.agg z32.toArray, .int .i64 15]) ?_ rfl ?_
          · exact results_in Tryd.results37 _ _ (w.heap.size + 2) 47 _ (0, 0) _ _ (by rfl) (by rfl) hy9 Tryd.underlying47 rfl I32G
          · exact ⟨by have he := HUP.out.1 HGN.out; injection he with e1 e2; rw [e1, e2]; rfl, hB9.trans (hoy9.below (by omega))⟩
      · rw [hBc] at heq HBX
        cases hSc : SG
        · rw [hSc] at CSg HSG
          have hG : goUp n i leaf P = none := HG.out.trans (by
            unfold goUp
            rw [if_neg (by unfold lvl; rw [HBX.out, HSG.out]; decide)])
          have HGN := Lib.hid hG
          clear hG HG HBX HAX HSG
          refine wp_region_held_drew (S := fun W => W.rangeAt gB 0 V ∧ W.rangeAt gN 0 X) (by kernel_rfl) ?_ (fun hHeld => ?_)
          · exact K8.out _ (by first | exact hv1.drew | exact hv1.drew.up f5) (by first | exact hx1.drew | exact hx1.drew.up f5)
          refine wpAnyH_take (i := 0) rfl (by kernel_rfl) (by kernel_rfl) (by kernel_rfl) (fun _ _ _ h => h) (yieldsIf_load_mid (by rfl) _ _ rfl _ _ rfl V _ (fun w hSw => by (try dsimp only at hSw); go_split_ands; assumption) Tryd.underlying47 rfl IV.out) (by assumption) ?_
          (try simp only [List.getElem_toArray, List.getElem_cons_succ, List.getElem_cons_zero, Act.put, List.setIfInBounds_toArray, List.set_cons_succ, List.set_cons_zero])
          refine wpAnyH_take (i := 1) rfl (by kernel_rfl) (by kernel_rfl) (by kernel_rfl) (fun _ _ _ h => h) (yieldsIf_load_mid (by rfl) _ _ rfl _ _ rfl X _ (fun w hSw => by (try dsimp only at hSw); go_split_ands; assumption) Tryd.underlying47 rfl IX.out) (by assumption) ?_
          (try simp only [List.getElem_toArray, List.getElem_cons_succ, List.getElem_cons_zero, Act.put, List.setIfInBounds_toArray, List.set_cons_succ, List.set_cons_zero])
          refine wpAnyH_take (i := 2) (v := ?_) rfl (by kernel_rfl) (by kernel_rfl) (by kernel_rfl) (fun _ _ _ h => h) (Or.inl ⟨by rfl, ?_⟩) (by assumption) ?_
          rotate_left 1
          · intro w hSw; (try dsimp only at hSw); simp only [List.getElem_toArray, List.getElem_cons_succ, List.getElem_cons_zero]; go_simp; try (with_reducible rfl)
          (try simp only [List.getElem_toArray, List.getElem_cons_succ, List.getElem_cons_zero, Act.put, List.setIfInBounds_toArray, List.set_cons_succ, List.set_cons_zero])
          refine wpAnyH_take (i := 3) (v := ?_) rfl (by kernel_rfl) (by kernel_rfl) (by kernel_rfl) (fun _ _ _ h => h) (Or.inl ⟨by rfl, ?_⟩) (by assumption) ?_
          rotate_left 1
          · intro w hSw; (try dsimp only at hSw); simp only [List.getElem_toArray, List.getElem_cons_succ, List.getElem_cons_zero]; go_simp; try (with_reducible rfl)
          (try simp only [List.getElem_toArray, List.getElem_cons_succ, List.getElem_cons_zero, Act.put, List.setIfInBounds_toArray, List.set_cons_succ, List.set_cons_zero])
          refine wpAnyH_take (i := 4) (v := ?_) rfl (by kernel_rfl) (by kernel_rfl) (by kernel_rfl) (fun _ _ _ h => h) (Or.inl ⟨by rfl, ?_⟩) (by assumption) ?_
          rotate_left 1
          · intro w hSw; (try dsimp only at hSw); simp only [List.getElem_toArray, List.getElem_cons_succ, List.getElem_cons_zero]; go_simp; try (with_reducible rfl)
          (try simp only [List.getElem_toArray, List.getElem_cons_succ, List.getElem_cons_zero, Act.put, List.setIfInBounds_toArray, List.set_cons_succ, List.set_cons_zero])
          refine wpAnyH_ready (rs := [5]) (by kernel_rfl) (by simp) ?_
          refine AllReadyH.cons rfl (fun K hK => ?_) AllReadyH.nil
          (try simp only [List.getElem_toArray, List.getElem_cons_succ, List.getElem_cons_zero])
          go_simp
          go_at_call 47; refine (CSg.out _).mono ?_; rintro e' y5 ⟨rfl, f5⟩
          (try (go_wp2_with fail))
          refine hK.out _ _ ?_ (fun hHeld => ?_)
          · exact K8.out _ (by first | exact hv1.drew | exact hv1.drew.up f5) (by first | exact hx1.drew | exact hx1.drew.up f5)
          clear hK K
          (try simp only [Act.put, List.setIfInBounds_toArray, List.set_cons_succ, List.set_cons_zero])
          refine wpAnyH_take (i := 6) (v := ?_) rfl (by kernel_rfl) (by kernel_rfl) (by kernel_rfl) (fun _ _ _ h => h) (Or.inl ⟨by rfl, ?_⟩) (by assumption) ?_
          rotate_left 1
          · intro w hSw; (try dsimp only at hSw); simp only [List.getElem_toArray, List.getElem_cons_succ, List.getElem_cons_zero]; go_simp; try (with_reducible rfl)
          (try simp only [List.getElem_toArray, List.getElem_cons_succ, List.getElem_cons_zero, Act.put, List.setIfInBounds_toArray, List.set_cons_succ, List.set_cons_zero])
          refine wpAnyH_done (by kernel_rfl) ?_ _
          have hx9 := hx1.drew.up f5
          have hv9 := hv1.drew.up f5
          have hz9 := hz1.drew.up f5
          have hB9 := below_more (below_dr hB1) f5
          clear hx1 hv1 hz1 hB1 f5 K8
          go_wp2_with (first
            | ((with_reducible refine at_bldZ 47 #[] ?_); refine wpList_bld rfl 47 #[] rfl #[] (.agg z32.toArray) (by rfl) BZG ?_)
            | ((with_reducible refine at_store 47 (.tmp 4) (.tmp 37) ?_); refine wpList_store_blk rfl 47 (.tmp 4) (.tmp 37) rfl (w.heap.size + 2) z32 z32 47 rfl rfl (hz9) rfl I32G O32 ?_; intro y9 hy9 hoy9))
          refine bodyPost_ret (v := .tuple #[.agg z32.toArray, .int .i64 15]) ?_ rfl ?_
          · exact results_in Tryd.results37 _ _ (w.heap.size + 2) 47 _ (0, 0) _ _ (by rfl) (by rfl) hy9 Tryd.underlying47 rfl I32G
          · exact ⟨by have he := HUP.out.1 HGN.out; injection he with e1 e2; rw [e1, e2]; rfl, hB9.trans (hoy9.below (by omega))⟩
        · rw [hSc] at CSg HSG
          have hG : goUp n i leaf P = goUp (wide n (t + 1)) (ix i (t + 1)) (two a x b) (P.drop (t + 1)) := HG.out.trans (by
            conv => lhs; unfold goUp
            rw [if_pos (by unfold lvl; rw [HBX.out, HSG.out]; rfl), HAX.out.1, HAX.out.2])
          have HGN := Lib.hid hG
          clear hG HG HBX HAX HSG
          refine wp_region_held_drew (S := fun W => W.rangeAt gB 0 V ∧ W.rangeAt gN 0 X) (by kernel_rfl) ?_ (fun hHeld => ?_)
          · exact K8.out _ (by first | exact hv1.drew | exact hv1.drew.up f5) (by first | exact hx1.drew | exact hx1.drew.up f5)
          refine wpAnyH_take (i := 0) rfl (by kernel_rfl) (by kernel_rfl) (by kernel_rfl) (fun _ _ _ h => h) (yieldsIf_load_mid (by rfl) _ _ rfl _ _ rfl V _ (fun w hSw => by (try dsimp only at hSw); go_split_ands; assumption) Tryd.underlying47 rfl IV.out) (by assumption) ?_
          (try simp only [List.getElem_toArray, List.getElem_cons_succ, List.getElem_cons_zero, Act.put, List.setIfInBounds_toArray, List.set_cons_succ, List.set_cons_zero])
          refine wpAnyH_take (i := 1) rfl (by kernel_rfl) (by kernel_rfl) (by kernel_rfl) (fun _ _ _ h => h) (yieldsIf_load_mid (by rfl) _ _ rfl _ _ rfl X _ (fun w hSw => by (try dsimp only at hSw); go_split_ands; assumption) Tryd.underlying47 rfl IX.out) (by assumption) ?_
          (try simp only [List.getElem_toArray, List.getElem_cons_succ, List.getElem_cons_zero, Act.put, List.setIfInBounds_toArray, List.set_cons_succ, List.set_cons_zero])
          refine wpAnyH_take (i := 2) (v := ?_) rfl (by kernel_rfl) (by kernel_rfl) (by kernel_rfl) (fun _ _ _ h => h) (Or.inl ⟨by rfl, ?_⟩) (by assumption) ?_
          rotate_left 1
          · intro w hSw; (try dsimp only at hSw); simp only [List.getElem_toArray, List.getElem_cons_succ, List.getElem_cons_zero]; go_simp; try (with_reducible rfl)
          (try simp only [List.getElem_toArray, List.getElem_cons_succ, List.getElem_cons_zero, Act.put, List.setIfInBounds_toArray, List.set_cons_succ, List.set_cons_zero])
          refine wpAnyH_take (i := 3) (v := ?_) rfl (by kernel_rfl) (by kernel_rfl) (by kernel_rfl) (fun _ _ _ h => h) (Or.inl ⟨by rfl, ?_⟩) (by assumption) ?_
          rotate_left 1
          · intro w hSw; (try dsimp only at hSw); simp only [List.getElem_toArray, List.getElem_cons_succ, List.getElem_cons_zero]; go_simp; try (with_reducible rfl)
          (try simp only [List.getElem_toArray, List.getElem_cons_succ, List.getElem_cons_zero, Act.put, List.setIfInBounds_toArray, List.set_cons_succ, List.set_cons_zero])
          refine wpAnyH_take (i := 4) (v := ?_) rfl (by kernel_rfl) (by kernel_rfl) (by kernel_rfl) (fun _ _ _ h => h) (Or.inl ⟨by rfl, ?_⟩) (by assumption) ?_
          rotate_left 1
          · intro w hSw; (try dsimp only at hSw); simp only [List.getElem_toArray, List.getElem_cons_succ, List.getElem_cons_zero]; go_simp; try (with_reducible rfl)
          (try simp only [List.getElem_toArray, List.getElem_cons_succ, List.getElem_cons_zero, Act.put, List.setIfInBounds_toArray, List.set_cons_succ, List.set_cons_zero])
          refine wpAnyH_ready (rs := [5]) (by kernel_rfl) (by simp) ?_
          refine AllReadyH.cons rfl (fun K hK => ?_) AllReadyH.nil
          (try simp only [List.getElem_toArray, List.getElem_cons_succ, List.getElem_cons_zero])
          go_simp
          go_at_call 47; refine (CSg.out _).mono ?_; rintro e' y5 ⟨rfl, f5⟩
          (try (go_wp2_with fail))
          refine hK.out _ _ ?_ (fun hHeld => ?_)
          · exact K8.out _ (by first | exact hv1.drew | exact hv1.drew.up f5) (by first | exact hx1.drew | exact hx1.drew.up f5)
          clear hK K
          (try simp only [Act.put, List.setIfInBounds_toArray, List.set_cons_succ, List.set_cons_zero])
          refine wpAnyH_take (i := 6) (v := ?_) rfl (by kernel_rfl) (by kernel_rfl) (by kernel_rfl) (fun _ _ _ h => h) (Or.inl ⟨by rfl, ?_⟩) (by assumption) ?_
          rotate_left 1
          · intro w hSw; (try dsimp only at hSw); simp only [List.getElem_toArray, List.getElem_cons_succ, List.getElem_cons_zero]; go_simp; try (with_reducible rfl)
          (try simp only [List.getElem_toArray, List.getElem_cons_succ, List.getElem_cons_zero, Act.put, List.setIfInBounds_toArray, List.set_cons_succ, List.set_cons_zero])
          refine wpAnyH_done (by kernel_rfl) ?_ _
          have hx9 := hx1.drew.up f5
          have hv9 := hv1.drew.up f5
          have hz9 := hz1.drew.up f5
          have hB9 := below_more (below_dr hB1) f5
          clear hx1 hv1 hz1 hB1 f5 K8
          go_wp2_with (first
            | ((with_reducible refine at_load 47 (.tmp 7) ?_); refine wpList_load_mid rfl 47 (.tmp 7) rfl (gN) (0) (by first | rfl | simp [Act.eval]) X _ (Blk.range hx9) Tryd.underlying47 rfl IX.out ?_)
            | ((with_reducible refine at_load 47 (.tmp 11) ?_); refine wpList_load_mid rfl 47 (.tmp 11) rfl (gB) (0) (by first | rfl | simp [Act.eval]) V _ (Blk.range hv9) Tryd.underlying47 rfl IV.out ?_)
            | (go_at_call 48; refine (CPY.out _ hB9).mono ?_; rintro e' y8 ⟨rfl, e8⟩)
            | ((with_reducible refine at_store 47 (.tmp 7) (.tmp 41) ?_); refine wpList_store_blk rfl 47 (.tmp 7) (.tmp 41) rfl (gN) X Y 47 rfl rfl (hx9.up e8) LY.out IY.out OY.out ?_; intro y9 hy9 hoy9))
          go_roundw
          case rel => exact ⟨t + 1, y, by go_num, by rw [HIX.out.2], by rw [HWX.out], by omega, by rw [← HYY.out]; exact hy9, HY32.out, by rw [HGN.out, HTW.out], hoy9.blk (hz9.up e8) (by omega), (below_more hB9 e8).trans (hoy9.below (by omega))⟩
          case measure => simp [intOf]; omega
    · have hlt' : ¬ (t : Int) < (m : Int) := by omega
      have htm2 : t = m := by omega
      have hfin : goUp n i leaf P = some x := by
        rw [hgo, List.drop_of_length_le (by rw [HR.out.len]; omega)]
        rfl
      have he := HUP.out.2 x hfin
      injection he with e1 e2
      have HE1 := Lib.hid e1
      subst e2
      have O9 : ∀ v ∈ X, v.oneCell' = true := by rw [HXX.out]; exact b8_one _
      have L9 : z32.length = X.length := by rw [HXX.out, List.length_map, HX32.out]; rfl
      clear hgo hfin e1 htm2 hX hx32 hgg
      go_wp2_with (first
        | ((with_reducible refine at_load 47 (.tmp 7) ?_); refine wpList_load_mid rfl 47 (.tmp 7) rfl (gN) (0) (by first | rfl | simp [Act.eval]) X _ (Blk.range hxb) Tryd.underlying47 rfl IX.out ?_)
        | ((with_reducible refine at_store 47 (.tmp 4) (.tmp 48) ?_); refine wpList_store_blk rfl 47 (.tmp 4) (.tmp 48) rfl (w.heap.size + 2) z32 X 47 rfl rfl (hzb) L9 IX.out O9 ?_; intro y9 hy9 hoy9))
      refine bodyPost_ret (v := .tuple #[.agg X.toArray, .int .i64 0]) ?_ rfl ?_
      · exact results_in Tryd.results37 _ _ (w.heap.size + 2) 47 _ (0, 0) _ _ (by rfl) (by rfl) hy9 Tryd.underlying47 rfl IX.out
      · exact ⟨by rw [HE1.out, ← HXX.out], hbel.trans (hoy9.below (by omega))⟩
set_option maxRecDepth 100000 in
theorem bup_calls (c i : Int) (A : Option Addr) (m cap : Nat) (P : List (List UInt8)) (leaf : List UInt8) (w : World) (hr : RdH w A m P) (hT : Tab w) (hl : leaf.length = 32) :
    Calls Tryd.prog 37 #[.agg #[.int .i64 c, .int .i64 i, .slice A m cap], .agg (leaf.map B8).toArray] w (Ret w (.tuple #[.agg ((upE c i P leaf).1.map B8).toArray, .int .i64 ((upE c i P leaf).2 : Int)])) := by
  have hln := hr.len
  by_cases h0 : rgt c i m = 0
  · obtain ⟨g1, g2, g3, g4, g5⟩ := rgt_zero h0
    obtain ⟨n, rfl⟩ : ∃ n : Nat, c = (n : Int) := ⟨c.toNat, by omega⟩
    obtain ⟨j, rfl⟩ : ∃ n : Nat, i = (n : Int) := ⟨i.toNat, by omega⟩
    refine bup_good n j A m cap P leaf _ _ w hr hT hl (by rw [g5, Int.toNat_natCast]) (by omega) (by omega) (Lib.hid ⟨fun h => ?_, fun x h => ?_⟩)
    · unfold upE
      rw [hln, if_neg (by rw [h0]; simp), Int.toNat_natCast, Int.toNat_natCast, h]
    · unfold upE
      rw [hln, if_neg (by rw [h0]; simp), Int.toNat_natCast, Int.toNat_natCast, h]
  · have e : upE c i P leaf = (List.replicate 32 0, rgt c i m) := by unfold upE; rw [hln, if_pos h0]
    rw [e]
    exact bup_bad c i A m cap _ _ w rfl h0
set_option maxRecDepth 100000 in
set_option maxHeartbeats 4000000 in
theorem bcheck_calls (c i : Int) (A : Option Addr) (m cap : Nat) (P : List (List UInt8)) (root leaf : List UInt8) (w : World) (hr : RdH w A m P) (hT : Tab w) (hl : leaf.length = 32) (hro : root.length = 32) :
    Calls Tryd.prog 20 #[.agg #[.int .i64 c, .int .i64 i, .slice A m cap], .agg (root.map B8).toArray, .agg (leaf.map B8).toArray] w (Ret w (.int .i64 (chk c i P root leaf : Int))) := by
  obtain ⟨u, hu⟩ : ∃ u, u = (upE c i P leaf).1 := ⟨_, rfl⟩
  obtain ⟨E, hE⟩ : ∃ u, u = (upE c i P leaf).2 := ⟨_, rfl⟩
  have u32 : u.length = 32 := by rw [hu]; exact upE_len _ _ _ _ hl
  obtain ⟨RF, hRF⟩ : ∃ V, V = root.map B8 := ⟨_, rfl⟩
  obtain ⟨LF, hLF⟩ : ∃ V, V = leaf.map B8 := ⟨_, rfl⟩
  obtain ⟨U, hU⟩ : ∃ V, V = u.map B8 := ⟨_, rfl⟩
  have IL : Hid ((Tryd.prog.info? 47).map (·.size) = some LF.length) := Lib.hid (by rw [hLF, List.length_map, hl]; kernel_rfl)
  have IR : Hid ((Tryd.prog.info? 47).map (·.size) = some RF.length) := Lib.hid (by rw [hRF, List.length_map, hro]; kernel_rfl)
  have IU : Hid ((Tryd.prog.info? 47).map (·.size) = some U.length) := Lib.hid (by rw [hU, List.length_map, u32]; kernel_rfl)
  have LU : Hid (z32.length = U.length) := Lib.hid (by rw [hU, List.length_map, u32]; rfl)
  have OU : Hid (∀ v ∈ U, v.oneCell' = true) := Lib.hid (by rw [hU]; exact b8_one _)
  have CU : Hid (∀ W, Below w.heap.size w W → Calls Tryd.prog 37 #[.agg #[.int .i64 c, .int .i64 i, .slice A m cap], .agg LF.toArray] W (Ret W (.tuple #[.agg U.toArray, .int .i64 (E : Int)]))) := Lib.hid fun W h => by rw [hLF, hU, hu, hE]; exact bup_calls c i A m cap P leaf W (hr.below h) (hT.all h) hl
  obtain ⟨BS, hBS⟩ : ∃ B, B = decide (u = root) := ⟨_, rfl⟩
  have heq : ∀ W, (Op.equalIn 10000 47 (.agg U.toArray) (.agg RF.toArray)).run Tryd.prog W = .ok BS W := fun W => by rw [hU, hRF]; exact eqG32 u root u32 hro BS hBS.symm W
  have hc : chk c i P root leaf = if E ≠ 0 then E else if BS then 0 else 15 := by
    unfold chk
    rw [← hE, ← hu, hBS]
    simp
  rw [← hRF, ← hLF, hc]
  clear hr hT hl hro hc hRF hLF hU u32 hu hE hBS
  obtain ⟨w0, hw0⟩ : ∃ x, x = ((w.alloc (.cells #[.int .i64 c, .int .i64 i, .slice A m cap] 26)).alloc (.cells RF.toArray 47)).alloc (.cells LF.toArray 47) := ⟨_, rfl⟩
  have hs0 : w0.heap.size = w.heap.size + 3 := by rw [hw0]; simp
  have hB0 : Below w.heap.size w w0 := by rw [hw0]; exact below_al (below_al (below_al (Below.refl _ _) _) _) _
  have hk0 : Blk w0 w.heap.size [.int .i64 c, .int .i64 i, .slice A m cap] 26 := by rw [hw0]; exact Blk.alloc (Blk.alloc (Blk.new w _ _) _) _
  have hk1 : Blk w0 (w.heap.size + 1) RF 47 := by rw [hw0]; exact Blk.alloc (Blk.new' _ _ _ _ (by simp)) _
  have hk2 : Blk w0 (w.heap.size + 2) LF 47 := by rw [hw0]; exact Blk.new' _ _ _ _ (by simp)
  have hw1 : ((w.alloc (.cells #[.int .i64 c, .int .i64 i, .slice A m cap] 26)).alloc (.cells RF.toArray 47)).alloc (.cells LF.toArray 47) = w0 := hw0.symm
  clear hw0
  go_enter Tryd.func20, Tryd.ntmps20
  go_upto_region 1 with fail
  try rw [hw1]
  clear hw1
  go_upto_region 2 with (first
    | ((with_reducible refine at_load 26 (.tmp 3) ?_); refine wpList_load_mid rfl 26 (.tmp 3) rfl (w.heap.size) (0) (by first | rfl | simp [Act.eval]) [.int .i64 c, .int .i64 i, .slice A m cap] _ (Blk.range hk0) Tryd.underlying26 rfl (by kernel_rfl) ?_)
    | ((with_reducible refine at_load 47 (.tmp 5) ?_); refine wpList_load_mid rfl 47 (.tmp 5) rfl (w.heap.size + 2) (0) (by first | rfl | simp [Act.eval]) LF _ (Blk.range hk2) Tryd.underlying47 rfl IL.out ?_)
    | (go_at_call 37; refine (CU.out _ hB0).mono ?_; rintro e' x1 ⟨rfl, d1⟩)
    | ((with_reducible refine at_alloc 47 ?_); refine wpList_allocT rfl 47 z32 (by kernel_rfl) rfl w.heap.size w (below_more hB0 d1) (Nat.le_refl _) ?_; intro g2 x2 hb2 hg2 hl2 hf2 hB2)
    | ((with_reducible refine at_store 47 (.tmp 7) (.tmp 13) ?_); refine wpList_store_blk rfl 47 (.tmp 7) (.tmp 13) rfl (g2) z32 U 47 rfl rfl (hb2) LU.out IU.out OU.out ?_; intro x3 hx3 hox3))
  have hs1 := d1.size
  have hr3 := hox3.blk ((hk1.up d1).stepF hf2) (by omega)
  have hB9 : Below w.heap.size w x3 := hB2.trans (hox3.below (by omega))
  clear hk0 hk1 hk2 d1 hb2 hf2 hB2 hox3
  by_cases h0 : E = 0
  · subst h0
    cases hBc : BS
    · rw [hBc] at heq
      go_wp2_with (first
        | ((with_reducible refine at_load 47 (.tmp 7) ?_); refine wpList_load_mid rfl 47 (.tmp 7) rfl (g2) (0) (by first | rfl | simp [Act.eval]) U _ (Blk.range hx3) Tryd.underlying47 rfl IU.out ?_)
        | ((with_reducible refine at_load 47 (.tmp 4) ?_); refine wpList_load_mid rfl 47 (.tmp 4) rfl (w.heap.size + 1) (0) (by first | rfl | simp [Act.eval]) RF _ (Blk.range hr3) Tryd.underlying47 rfl IR.out ?_))
      go_ret
      exact ⟨rfl, hB9⟩
    · rw [hBc] at heq
      go_wp2_with (first
        | ((with_reducible refine at_load 47 (.tmp 7) ?_); refine wpList_load_mid rfl 47 (.tmp 7) rfl (g2) (0) (by first | rfl | simp [Act.eval]) U _ (Blk.range hx3) Tryd.underlying47 rfl IU.out ?_)
        | ((with_reducible refine at_load 47 (.tmp 4) ?_); refine wpList_load_mid rfl 47 (.tmp 4) rfl (w.heap.size + 1) (0) (by first | rfl | simp [Act.eval]) RF _ (Blk.range hr3) Tryd.underlying47 rfl IR.out ?_))
      go_ret
      exact ⟨rfl, hB9⟩
  · have h1 : ¬ (E : Int) = 0 := by omega
    rw [if_pos h0]
    go_wp2
    go_ret
    exact ⟨rfl, hB9⟩
end Go.Proofs.YtpoinhjkdgcnaaaDoor
