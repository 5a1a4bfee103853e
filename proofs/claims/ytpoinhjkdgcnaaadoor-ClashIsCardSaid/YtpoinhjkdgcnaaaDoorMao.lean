/- Merged texts: MrkA. -/
import Derived.Test.YtpoinhjkdgcnaaaDoorMan
import Derived.Test.YtpoinhjkdgcnaaaDoorMak
import Derived.Test.YtpoinhjkdgcnaaaDoorMam
import Derived.Deep.RegionHeld3
/- Slices of hashes; the contracts of the document's own Pair, Depth and Wide of layer 8. -/
namespace Go.Proofs.YtpoinhjkdgcnaaaDoor
open Go.RowKit
set_option linter.unusedVariables false
set_option linter.unusedSimpArgs false

def z32 : List Value := [.int .u8 0, .int .u8 0, .int .u8 0, .int .u8 0, .int .u8 0, .int .u8 0, .int .u8 0, .int .u8 0, .int .u8 0, .int .u8 0, .int .u8 0, .int .u8 0, .int .u8 0, .int .u8 0, .int .u8 0, .int .u8 0, .int .u8 0, .int .u8 0, .int .u8 0, .int .u8 0, .int .u8 0, .int .u8 0, .int .u8 0, .int .u8 0, .int .u8 0, .int .u8 0, .int .u8 0, .int .u8 0, .int .u8 0, .int .u8 0, .int .u8 0, .int .u8 0]
/-- The slice of n hashes at A holds the list L. -/
def RdH (w : World) (A : Option Addr) (n : Nat) (L : List (List UInt8)) : Prop :=
  L.length = n ∧ (∀ h ∈ L, h.length = 32) ∧ (0 < n → ∃ b off, A = some ⟨b, off, none⟩ ∧ b < w.heap.size ∧ ∀ i, i < n → w.rangeAt b (off + i * 32) ((hat L i).map B8))
set_option maxRecDepth 100000 in
theorem RdH.len {w : World} {A : Option Addr} {n : Nat} {L : List (List UInt8)} (h : RdH w A n L) : L.length = n := h.1
set_option maxRecDepth 100000 in
theorem RdH.all {w : World} {A : Option Addr} {n : Nat} {L : List (List UInt8)} (h : RdH w A n L) : ∀ x ∈ L, x.length = 32 := h.2.1
set_option maxRecDepth 100000 in
theorem RdH.nil (w : World) (A : Option Addr) : RdH w A 0 [] := ⟨rfl, fun _ h => by simp at h, fun h => absurd h (by omega)⟩
set_option maxRecDepth 100000 in
theorem RdH.below {w W : World} {A : Option Addr} {n : Nat} {L : List (List UInt8)} (h : RdH w A n L) (hb : Below w.heap.size w W) : RdH W A n L :=
  ⟨h.1, h.2.1, fun hn => by
    obtain ⟨b, off, e, hlt, hc⟩ := h.2.2 hn
    exact ⟨b, off, e, Nat.lt_of_lt_of_le hlt hb.size, fun i hi j v hv => (hb.cell (p := ⟨b, off + i * 32 + j, none⟩) hlt).trans (hc i hi j v hv)⟩⟩
set_option maxRecDepth 100000 in
theorem RdH.at_ {w : World} {A : Option Addr} {n : Nat} {L : List (List UInt8)} (h : RdH w A n L) {k : Nat} (hk : k < n) : ∃ b off, A = some ⟨b, off, none⟩ ∧ b < w.heap.size ∧ w.rangeAt b (off + k * 32) ((hat L k).map B8) := by
  obtain ⟨b, off, e, hlt, hc⟩ := h.2.2 (by omega)
  exact ⟨b, off, e, hlt, hc k hk⟩
set_option maxRecDepth 100000 in
set_option maxHeartbeats 4000000 in
theorem dpair_calls (a b : List UInt8) (ha : a.length = 32) (hb : b.length = 32) (w : World) : Calls Tryd.prog 42 #[.agg (a.map B8).toArray, .agg (b.map B8).toArray] w (Ret w (.agg ((pr a b).map B8).toArray)) := by
  obtain ⟨VA, hVA⟩ : ∃ V, V = a.map B8 := ⟨_, rfl⟩
  obtain ⟨VB, hVB⟩ : ∃ V, V = b.map B8 := ⟨_, rfl⟩
  obtain ⟨V, hV⟩ : ∃ V, V = (pr a b).map B8 := ⟨_, rfl⟩
  obtain ⟨sa, hsa'⟩ : ∃ s : ByteArray, s = ⟨a.toArray⟩ := ⟨_, rfl⟩
  obtain ⟨sb, hsb'⟩ : ∃ s : ByteArray, s = ⟨b.toArray⟩ := ⟨_, rfl⟩
  obtain ⟨sc, hsc'⟩ : ∃ s : ByteArray, s = ⟨(a ++ b).toArray⟩ := ⟨_, rfl⟩
  have add1 : ∀ W, (Op.stringOp .add sa sb).run Tryd.prog W = .ok (.string sc) W := fun W => by rw [hsc', hsa', hsb']; exact bstr_add a b (by omega) (by omega) W
  have CT : Hid (∀ W, Calls Tryd.prog 27 #[.string sc] W (Ret W (.agg V.toArray))) := Lib.hid fun W => by
    rw [hV, hsc']
    exact rtwice_calls _ W (by rw [bstr_size, List.length_append]; omega)
  have IV : Hid ((Tryd.prog.info? 46).map (·.size) = some V.length) := Lib.hid (by
    rw [hV, List.length_map, pr_len]
    kernel_rfl)
  have LV : Hid (z32.length = V.length) := Lib.hid (by rw [hV, List.length_map, pr_len]; rfl)
  have OV : Hid (∀ v ∈ V, v.oneCell' = true) := Lib.hid (by rw [hV]; exact b8_one _)
  have KB : Hid (∀ W, Blk W w.heap.size VA 46 → Blk W (w.heap.size + 1) VB 46 → (convert 23 9 (.slice (some ⟨w.heap.size, 0, none⟩) 32 32)).run Tryd.prog W = .ok (.string sa) W ∧ (convert 23 9 (.slice (some ⟨w.heap.size + 1, 0, none⟩) 32 32)).run Tryd.prog W = .ok (.string sb) W) := Lib.hid fun W h1 h2 => by
    rw [hVA] at h1
    rw [hVB] at h2
    exact ⟨by rw [hsa']; exact conv8 W _ _ _ _ (h1.rd 0 32 a ha (fun j hj => by rw [Nat.zero_add, List.getElem?_map, List.getElem?_eq_getElem hj]; rfl)), by rw [hsb']; exact conv8 W _ _ _ _ (h2.rd 0 32 b hb (fun j hj => by rw [Nat.zero_add, List.getElem?_map, List.getElem?_eq_getElem hj]; rfl))⟩
  have hsa : ∀ (g : Nat) W, (Instr.sliceAt 46 (.pointer (some ⟨g, 0, none⟩)) none none none).run Tryd.prog W = .ok (.slice (some ⟨g, 0, none⟩) 32 32) W := fun g W => run_sl_all 46 5 32 Tryd.underlying46 size8 g 0 (by omega) W
  have hb0 : Blk (((w.alloc (.cells VA.toArray 46)).alloc (.cells VB.toArray 46)).alloc (.cells z32.toArray 46)) w.heap.size VA 46 := Blk.alloc (Blk.alloc (Blk.new w VA.toArray _) _) _
  have hb1 : Blk (((w.alloc (.cells VA.toArray 46)).alloc (.cells VB.toArray 46)).alloc (.cells z32.toArray 46)) (w.heap.size + 1) VB 46 := Blk.alloc (Blk.new' _ _ _ _ (by simp)) _
  have hb2 : Blk (((w.alloc (.cells VA.toArray 46)).alloc (.cells VB.toArray 46)).alloc (.cells z32.toArray 46)) (w.heap.size + 1 + 1) z32 46 := Blk.new' _ _ _ _ (by simp)
  have HB := Lib.hid (below_al (below2 w (.cells VA.toArray 46) (.cells VB.toArray 46)) (.cells z32.toArray 46))
  obtain ⟨w0, hw0⟩ : ∃ w0, w0 = ((w.alloc (.cells VA.toArray 46)).alloc (.cells VB.toArray 46)).alloc (.cells z32.toArray 46) := ⟨_, rfl⟩
  rw [← hw0] at hb0 hb1 hb2 HB
  have hw1 : ((w.alloc (.cells VA.toArray 46)).alloc (.cells VB.toArray 46)).alloc (.cells #[.int .u8 0, .int .u8 0, .int .u8 0, .int .u8 0, .int .u8 0, .int .u8 0, .int .u8 0, .int .u8 0, .int .u8 0, .int .u8 0, .int .u8 0, .int .u8 0, .int .u8 0, .int .u8 0, .int .u8 0, .int .u8 0, .int .u8 0, .int .u8 0, .int .u8 0, .int .u8 0, .int .u8 0, .int .u8 0, .int .u8 0, .int .u8 0, .int .u8 0, .int .u8 0, .int .u8 0, .int .u8 0, .int .u8 0, .int .u8 0, .int .u8 0, .int .u8 0] 46) = w0 := hw0.symm
  rw [← hVA, ← hVB, ← hV]
  clear hVA hVB hV hsa' hsb' hsc' ha hb hw0
  go_enter Tryd.func42, Tryd.ntmps42
  go_upto_region 1 with fail
  try rw [hw1]
  clear hw1
  refine wp_region_held_drew (S := fun W => (convert 23 9 (.slice (some ⟨w.heap.size, 0, none⟩) 32 32)).run Tryd.prog W = .ok (.string sa) W ∧ (convert 23 9 (.slice (some ⟨w.heap.size + 1, 0, none⟩) 32 32)).run Tryd.prog W = .ok (.string sb) W) (by kernel_rfl) ?_ (fun hHeld => ?_)
  · exact KB.out _ (hb0.up (by ((repeat (first | with_reducible assumption | with_reducible exact Below.refl _ _ | with_reducible apply below_al | with_reducible apply below_dr | with_reducible refine below_more ?_ (by assumption)))))) (hb1.up (by ((repeat (first | with_reducible assumption | with_reducible exact Below.refl _ _ | with_reducible apply below_al | with_reducible apply below_dr | with_reducible refine below_more ?_ (by assumption))))))
  refine wpAnyH_take (i := 0) (v := .slice (some ⟨w.heap.size, 0, none⟩) 32 32) rfl (by kernel_rfl) (by kernel_rfl) (by kernel_rfl) (fun _ _ _ h => h) (Or.inl ⟨by rfl, ?_⟩) (by assumption) ?_
  · intro w hSw; (try dsimp only at hSw); simp only [List.getElem_toArray, List.getElem_cons_succ, List.getElem_cons_zero]; first | (go_simp; done) | (simp [execOp, Act.eval, hsa]; done)
  (try simp only [List.getElem_toArray, List.getElem_cons_succ, List.getElem_cons_zero, Act.put, List.setIfInBounds_toArray, List.set_cons_succ, List.set_cons_zero])
  refine wpAnyH_take (i := 1) (v := ?_) rfl (by kernel_rfl) (by kernel_rfl) (by kernel_rfl) (fun _ _ _ h => h) (Or.inl ⟨by rfl, ?_⟩) (by assumption) ?_
  rotate_left 1
  · intro w hSw; (try dsimp only at hSw); simp only [List.getElem_toArray, List.getElem_cons_succ, List.getElem_cons_zero]; go_simp; try (with_reducible rfl)
  (try simp only [List.getElem_toArray, List.getElem_cons_succ, List.getElem_cons_zero, Act.put, List.setIfInBounds_toArray, List.set_cons_succ, List.set_cons_zero])
  refine wpAnyH_take (i := 2) (v := .slice (some ⟨w.heap.size + 1, 0, none⟩) 32 32) rfl (by kernel_rfl) (by kernel_rfl) (by kernel_rfl) (fun _ _ _ h => h) (Or.inl ⟨by rfl, ?_⟩) (by assumption) ?_
  · intro w hSw; (try dsimp only at hSw); simp only [List.getElem_toArray, List.getElem_cons_succ, List.getElem_cons_zero]; first | (go_simp; done) | (simp [execOp, Act.eval, hsa]; done)
  (try simp only [List.getElem_toArray, List.getElem_cons_succ, List.getElem_cons_zero, Act.put, List.setIfInBounds_toArray, List.set_cons_succ, List.set_cons_zero])
  refine wpAnyH_take (i := 3) (v := ?_) rfl (by kernel_rfl) (by kernel_rfl) (by kernel_rfl) (fun _ _ _ h => h) (Or.inl ⟨by rfl, ?_⟩) (by assumption) ?_
  rotate_left 1
  · intro w hSw; (try dsimp only at hSw); simp only [List.getElem_toArray, List.getElem_cons_succ, List.getElem_cons_zero]; go_simp; try (with_reducible rfl)
  (try simp only [List.getElem_toArray, List.getElem_cons_succ, List.getElem_cons_zero, Act.put, List.setIfInBounds_toArray, List.set_cons_succ, List.set_cons_zero])
  refine wpAnyH_take (i := 4) (v := .string sc) rfl (by kernel_rfl) (by kernel_rfl) (by kernel_rfl) (fun _ _ _ h => h) (Or.inl ⟨by rfl, ?_⟩) (by assumption) ?_
  · intro w hSw; (try dsimp only at hSw); simp only [List.getElem_toArray, List.getElem_cons_succ, List.getElem_cons_zero]; first | (go_simp; done) | (go_simp; simp [add1]; done) | (simp [execOp, Act.eval, binOp, add1]; done)
  (try simp only [List.getElem_toArray, List.getElem_cons_succ, List.getElem_cons_zero, Act.put, List.setIfInBounds_toArray, List.set_cons_succ, List.set_cons_zero])
  refine wpAnyH_ready (rs := [5]) (by kernel_rfl) (by simp) ?_
  refine AllReadyH.cons rfl (fun K hK => ?_) AllReadyH.nil
  (try simp only [List.getElem_toArray, List.getElem_cons_succ, List.getElem_cons_zero])
  go_simp
  go_at_call 27; refine (CT.out _).mono ?_; rintro e' x5 ⟨rfl, d5⟩
  (try (go_wp2_with fail))
  refine hK.out _ _ ?_ (fun hHeld => ?_)
  · exact KB.out _ (hb0.up (by ((repeat (first | with_reducible assumption | with_reducible exact Below.refl _ _ | with_reducible apply below_al | with_reducible apply below_dr | with_reducible refine below_more ?_ (by assumption)))))) (hb1.up (by ((repeat (first | with_reducible assumption | with_reducible exact Below.refl _ _ | with_reducible apply below_al | with_reducible apply below_dr | with_reducible refine below_more ?_ (by assumption))))))
  clear hK K
  (try simp only [Act.put, List.setIfInBounds_toArray, List.set_cons_succ, List.set_cons_zero])
  refine wpAnyH_ready (rs := [6]) (by kernel_rfl) (by simp) ?_
  refine AllReadyH.cons rfl (fun K hK => ?_) AllReadyH.nil
  (try simp only [List.getElem_toArray, List.getElem_cons_succ, List.getElem_cons_zero])
  refine Eq.mpr (if_pos (by rfl)) ?_
  refine wp_store_in 46 (.tmp 4) (.tmp 10) rfl (w.heap.size + 1 + 1) z32 V 46 rfl rfl (hb2.up (by ((repeat (first | with_reducible assumption | with_reducible exact Below.refl _ _ | with_reducible apply below_al | with_reducible apply below_dr | with_reducible refine below_more ?_ (by assumption)))))) LV.out IV.out OV.out ?_
  intro w6 hb6 ho6
  have hB6 : Below w.heap.size w w6 := below_only (below_more HB.out (by ((repeat (first | with_reducible assumption | with_reducible exact Below.refl _ _ | with_reducible apply below_al | with_reducible apply below_dr | with_reducible refine below_more ?_ (by assumption)))))) ho6 (by omega)
  refine hK.out _ _ ?_ (fun hHeld => ?_)
  · exact KB.out _ (ho6.blk (hb0.up (by ((repeat (first | with_reducible assumption | with_reducible exact Below.refl _ _ | with_reducible apply below_al | with_reducible apply below_dr | with_reducible refine below_more ?_ (by assumption)))))) (by omega)) (ho6.blk (hb1.up (by ((repeat (first | with_reducible assumption | with_reducible exact Below.refl _ _ | with_reducible apply below_al | with_reducible apply below_dr | with_reducible refine below_more ?_ (by assumption)))))) (by omega))
  clear hK K
  (try simp only [Act.put, List.setIfInBounds_toArray, List.set_cons_succ, List.set_cons_zero])
  refine wpAnyH_done (by kernel_rfl) ?_ _
  go_wp2
  refine bodyPost_ret (v := .agg V.toArray) ?_ rfl ⟨rfl, hB6⟩
  exact results_one Tryd.results42 _ _ (w.heap.size + 1 + 1) 46 _ (0, 0) _ (by rfl) hb6 Tryd.underlying46 rfl IV.out
set_option maxRecDepth 100000 in
set_option maxHeartbeats 4000000 in
theorem ddepth_calls (n : Nat) (hn : n ≤ 64) (w : World) : Calls Tryd.prog 28 #[.int .i64 (n : Int)] w (Ret w (.int .i64 (depth n : Int))) := by
  go_enter Tryd.func28, Tryd.ntmps28
  go_wp2
  go_loopw [3, 4] (fun d k wr => ∃ t : Nat, d = .int .i64 (t : Int) ∧ k = .int .i64 ((2 ^ t : Nat) : Int) ∧ t ≤ 6 ∧ (t = 0 ∨ 2 ^ (t - 1) < n) ∧ Below w.heap.size w wr) (fun d _ _ => 7 - (intOf d).toNat)
  case atStart => exact ⟨0, by first | rfl | go_num, by first | rfl | go_num, by omega, .inl rfl, Below.refl _ w⟩
  case round =>
    obtain ⟨t, rfl, rfl, ht6, hlow, hbel⟩ := hrel
    obtain ⟨p, hp⟩ : ∃ p, p = 2 ^ t := ⟨_, rfl⟩
    rw [← hp]
    have hp64 : p ≤ 64 := by rw [hp]; have := Nat.pow_le_pow_right (n := 2) (by omega) ht6; omega
    by_cases hlt : p < n
    · have hlt' : (p : Int) < (n : Int) := by omega
      have ht5 : t < 6 := by
        rcases Nat.lt_or_ge t 6 with h | h
        · exact h
        · have : t = 6 := by omega
          rw [this] at hp
          omega
      have HP := Lib.hid (And.intro hp hlow)
      clear hp hlow
      go_wp2
      go_roundw
      case rel =>
        refine ⟨t + 1, by go_num, ?_, by omega, .inr (by rw [Nat.add_sub_cancel, ← HP.out.1]; exact hlt), hbel⟩
        rw [Nat.pow_succ, ← HP.out.1]
        first | rfl | go_num
      case measure => simp [intOf]; omega
    · have hlt' : ¬ (p : Int) < (n : Int) := by omega
      have hd : depth n = t := depth_is n t (by rw [← hp]; omega) hlow
      have HD := Lib.hid hd
      clear hlow hd hp
      go_wp2
      go_ret
      exact ⟨by rw [HD.out]; rfl, hbel⟩
set_option maxRecDepth 100000 in
set_option maxHeartbeats 4000000 in
theorem dwide_calls (n k : Nat) (hn : n ≤ 1000) (hk : k ≤ 1000) (w : World) : Calls Tryd.prog 29 #[.int .i64 (n : Int), .int .i64 (k : Int)] w (Ret w (.int .i64 (wide n k : Int))) := by
  go_enter Tryd.func29, Tryd.ntmps29
  go_wp2
  go_loopw [0, 5] (fun x i wr => ∃ t : Nat, x = .int .i64 ((wide n t : Nat) : Int) ∧ i = .int .i64 (t : Int) ∧ t ≤ k ∧ wide n t ≤ 1000 ∧ Below w.heap.size w wr) (fun _ i _ => k - (intOf i).toNat)
  case atStart => exact ⟨0, by first | rfl | go_num, by first | rfl | go_num, by omega, hn, Below.refl _ w⟩
  case round =>
    obtain ⟨t, rfl, rfl, htk, hx1000, hbel⟩ := hrel
    by_cases hlt : t < k
    · have hlt' : (t : Int) < (k : Int) := by omega
      obtain ⟨x, hx⟩ : ∃ x, x = wide n t := ⟨_, rfl⟩
      have hx1 : wide n (t + 1) = (x + 1) / 2 := by rw [wide, ← hx]
      obtain ⟨y, hy⟩ : ∃ y, y = (x + 1) / 2 := ⟨_, rfl⟩
      rw [← hx] at hx1000 ⊢
      have q1 : Int.tdiv ((x : Int) + 1) 2 = (y : Int) := by rw [Int.tdiv_eq_ediv_of_nonneg (by omega)]; omega
      have q2 : ((x : Int) + 1) / 2 = (y : Int) := by omega
      have q0 : IntKind.i64.wrap ((x : Int) + 1) = (x : Int) + 1 := by rw [IntKind.wrap_i64]; omega
      have q3 : IntKind.i64.wrap (y : Int) = (y : Int) := by rw [IntKind.wrap_i64]; omega
      have HX := Lib.hid (hx1.trans hy.symm)
      have hy1 : y ≤ 1000 := by omega
      clear hx hx1 hy
      go_wp2
      go_roundw
      case rel => exact ⟨t + 1, by rw [HX.out], by go_num, by omega, by rw [HX.out]; exact hy1, hbel⟩
      case measure => simp [intOf]; omega
    · have e : t = k := by omega
      subst e
      have hlt' : ¬ (t : Int) < (t : Int) := by omega
      go_wp2
      go_ret
      exact ⟨rfl, hbel⟩
end Go.Proofs.YtpoinhjkdgcnaaaDoor
