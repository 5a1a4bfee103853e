/- The contracts of sha2.Twice and of layer 2's awake. -/
import Derived.Test.YtfnlclooneanaaaDoorShaV
namespace Go.Proofs.YtfnlclooneanaaaDoor
open Go.RowKit
set_option linter.unusedVariables false

/-- The bytes of a hash that lies in a block. -/
theorem hash_rd {w : World} {g : Nat} {t : TypeId} {V : List Value} {l : List UInt8} (h : Blk w g V t) (hV : V = l.map B8) (hl : l.length = 32) : Rd w (some ⟨g, 0, none⟩) 32 l :=
  h.rd 0 32 l hl fun j hj => by rw [hV]; simp [B8, List.getElem?_eq_getElem hj]
theorem sum1_calls (W : World) (g : Nat) (hg : W.heap.size = g) (A : Option Addr) (n c : Nat) (l : List UInt8) (h : Rd W A n l) (hc : n ≤ c) (hm : c ≤ maxLen) (hn : n ≤ 10000000000) (hT : Tab W) :
    Calls Tryd.prog 10 #[.slice (some ⟨g, 0, none⟩) 1 1] (W.alloc (.cells #[.slice A n c] 22)) (Ret (W.alloc (.cells #[.slice A n c] 22)) (.agg ((sha l).map B8).toArray)) := by
  have hr := rdm_one W g hg A n c l 22 h hc hm
  have := sum_calls _ (some ⟨g, 0, none⟩) 1 1 [l] hr (hT.all ((Below.refl _ W).alloc (Nat.le_refl _) _)) (by omega) (by simp; rw [h.len]; omega)
  simpa using this

set_option maxRecDepth 100000 in
set_option maxHeartbeats 1000000 in
theorem twice_calls (w : World) (A : Option Addr) (n c : Nat) (L : List (List UInt8)) (hR : RdM w A n L) (hT : Tab w) (hn : n ≤ 1000000000) (hf : L.flatten.length ≤ 10000000000) :
    Calls Tryd.prog 12 #[.slice A n c] w (Ret w (.agg ((sha (sha L.flatten)).map B8).toArray)) := by
  have hz32 := Lib.hid (Blk.new w (((List.replicate 32 (0 : UInt8)).map B8).toArray) 25)
  have hB0 := (Below.refl w.heap.size w).alloc (Nat.le_refl _) (.cells (((List.replicate 32 (0 : UInt8)).map B8).toArray) 25)
  obtain ⟨V, hV⟩ : ∃ V, V = (sha L.flatten).map B8 := ⟨_, rfl⟩
  have hVl : V.length = 32 := by rw [hV, List.length_map, sha_len]
  have hV1 : ∀ v ∈ V, v.oneCell' = true := by rw [hV]; exact b8_one _
  have hiV : (Tryd.prog.info? 25).map (·.size) = some V.length := by rw [hVl]; exact i32
  obtain ⟨V2, hV2⟩ : ∃ V, V = (sha (sha L.flatten)).map B8 := ⟨_, rfl⟩
  have hV2l : V2.length = 32 := by rw [hV2, List.length_map, sha_len]
  have hV21 : ∀ v ∈ V2, v.oneCell' = true := by rw [hV2]; exact b8_one _
  have hiV2 : (Tryd.prog.info? 25).map (·.size) = some V2.length := by rw [hV2l]; exact i32
  have S1 := Lib.hid (sum_calls _ A n c L (hR.below hB0) (hT.all hB0) hn hf)
  rw [← hV] at S1
  have S2 : Hid (∀ (W : World) (g : Nat) (k : Nat), W.heap.size = g → Blk W k V 25 → Tab W → Calls Tryd.prog 10 #[.slice (some ⟨g, 0, none⟩) 1 1] (W.alloc (.cells #[.slice (some ⟨k, 0, none⟩) 32 32] 22)) (Ret (W.alloc (.cells #[.slice (some ⟨k, 0, none⟩) 32 32] 22)) (.agg V2.toArray))) := Lib.hid (by
    intro W g k hg hb hTW
    rw [hV2]
    exact sum1_calls W g hg _ 32 32 _ (hash_rd hb hV (sha_len _)) (by omega) (by unfold maxLen; omega) (by omega) hTW)
  have hsl := fun g W => run_sl_all (P := Tryd.prog) 25 5 32 Tryd.underlying25 size8 g 0 (by omega) W
  have H0 := Lib.hid hB0
  have HT := Lib.hid hT
  have H1 := Lib.hid (And.intro hV hV2)
  have I1 := Lib.hid hiV
  have I2 := Lib.hid hiV2
  have L1 := Lib.hid hVl
  have L2 := Lib.hid hV2l
  clear hB0 hT hR hV hV2 hiV hiV2 hVl hV2l
  go_enter Tryd.func12, Tryd.ntmps12
  go_wp2_with (first
    | (go_at_call_of 10 A; refine S1.out.mono ?_; rintro e' w1 ⟨rfl, hbel1⟩)
    | (refine at_store 25 (.tmp 3) (.tmp 5) ?_; refine wpList_store_blk rfl 25 (.tmp 3) (.tmp 5) rfl w1.heap.size _ V _ rfl rfl (Blk.new w1 _ _) (by rw [L1.out]; rfl) I1.out hV1 ?_; intro w2 hb2 ho2
       have hB1 : Below w.heap.size w w1 := H0.out.trans (hbel1.mono (by simp))
       have hs0 := hB1.size
       have hB2 : Below w.heap.size w w2 := (hB1.alloc hs0 _).trans (ho2.below hs0)
       have hl1 : w.heap.size < w1.heap.size := Nat.lt_of_lt_of_le (by simp) hbel1.size
       have hz2 : Blk w2 w.heap.size ((List.replicate 32 (0 : UInt8)).map B8) 25 := ho2.blk ((hz32.out.below hbel1 (by simp)).alloc _) (by omega)
       have J1 := Lib.hid hB2
       have J2 := Lib.hid hz2
       have J3 := Lib.hid hb2
       clear hB1 hs0 hB2 hl1 hz2 hb2 ho2 hbel1)
    | (go_at_call 10; refine (S2.out w2 _ _ rfl J3.out (HT.out.all J1.out)).mono ?_; rintro e' w3 ⟨rfl, hbel3⟩)
    | (refine at_store 25 (.tmp 2) (.tmp 8) ?_; refine wpList_store_blk rfl 25 (.tmp 2) (.tmp 8) rfl w.heap.size _ V2 _ rfl rfl ((J2.out.alloc _).below hbel3 (by have := J2.out.lt; simp; omega)) (by rw [L2.out]; rfl) I2.out hV21 ?_; intro w9 hb9 ho9))
  refine bodyPost_ret (v := .agg V2.toArray) ?_ rfl ⟨by rw [H1.out.2], ?_⟩
  · exact results_cell_row Tryd.results12 _ _ w.heap.size 25 _ (0, 0) _ (by rfl) hb9 Tryd.underlying25 rfl (by rw [List.size_toArray]; exact I2.out)
  · have h1 := J1.out
    have hs := h1.size
    exact ((h1.alloc hs _).trans (hbel3.mono (by simp; omega))).trans (ho9.below (Nat.le_refl _))

theorem modify_last (a : Array Obj) (x : Obj) (f : Obj → Obj) : (a.push x).modify a.size f = a.push (f x) := by
  apply Array.ext
  · simp
  · intro i h1 h2
    simp only [Array.getElem_modify, Array.getElem_push]
    by_cases h : a.size = i
    · subst h
      simp
    · have hi : i < a.size := by simp at h1; omega
      simp [h, hi]
theorem freeze_new (w : World) (C : Array Value) (e : TypeId) (k : Nat) : (w.alloc (.cells C e)).freeze ⟨w.heap.size, k, none⟩ 1 = w.alloc (.cells C e (k, k + 1)) := by
  unfold World.freeze
  rw [if_neg (by decide)]
  show ({ w.alloc (.cells C e) with heap := (w.heap.push (.cells C e)).modify w.heap.size _ } : World) = _
  rw [modify_last]
  rfl
/-- A byte slice that was just built, as a byte slice. -/
theorem conv_lit (w : World) (C : Array Value) (n c : Nat) :
    (convert 22 22 (.slice (some ⟨w.heap.size, 0, none⟩) n c)).run Tryd.prog (w.alloc (.cells C 5)) = .ok (.slice (some ⟨w.heap.size, 0, none⟩) n c) (w.alloc (.cells C 5 (C.size, C.size + 1))) := by
  have hsh : (w.alloc (.cells C 5)).shape? w.heap.size = some (5, C.size) := by
    unfold World.shape?
    rw [heap_alloc_new w _]
  simp [convert, run_underlying Tryd.underlying22, run_underlying Tryd.underlying5, markStringish, hsh]
  exact freeze_new w C 5 C.size
theorem rd_frozen (w : World) (t : TypeId) (fr : Nat × Nat) : Rd (w.alloc (.cells #[.int .u8 97, .int .u8 98, .int .u8 99] t fr)) (some ⟨w.heap.size, 0, none⟩) 3 [97, 98, 99] := by
  refine ⟨rfl, fun _ => ⟨w.heap.size, 0, rfl, by simp, fun j hj => ?_⟩⟩
  rw [cell_of_row _ w.heap.size (0 + j) _ t fr (heap_alloc_new w _)]
  rcases j with _ | _ | _ | j
  · rfl
  · rfl
  · rfl
  · exact absurd hj (by simp)

set_option maxRecDepth 100000 in
set_option maxHeartbeats 1000000 in
theorem awake2_calls (w : World) (hT : Tab w) : Calls Tryd.prog 9 #[] w (Ret w (.bool true)) := by
  obtain ⟨V, hV⟩ : ∃ V, V = (sha [97, 98, 99]).map B8 := ⟨_, rfl⟩
  have hVl : V.length = 32 := by rw [hV, List.length_map, sha_len]
  have hV1 : ∀ v ∈ V, v.oneCell' = true := by rw [hV]; exact b8_one _
  have hiV : (Tryd.prog.info? 25).map (·.size) = some V.length := by rw [hVl]; exact i32
  have v0 : V[0]? = some (.int .u8 186) := by rw [hV, List.getElem?_map, sha_abc.1]; rfl
  have v1 : V[1]? = some (.int .u8 120) := by rw [hV, List.getElem?_map, sha_abc.2.1]; rfl
  have v30 : V[30]? = some (.int .u8 21) := by rw [hV, List.getElem?_map, sha_abc.2.2.1]; rfl
  have v31 : V[31]? = some (.int .u8 173) := by rw [hV, List.getElem?_map, sha_abc.2.2.2]; rfl
  have S2 : Hid (∀ (W : World) (g : Nat) (k : Nat), W.heap.size = g → Rd W (some ⟨k, 0, none⟩) 3 [97, 98, 99] → Tab W → Calls Tryd.prog 10 #[.slice (some ⟨g, 0, none⟩) 1 1] (W.alloc (.cells #[.slice (some ⟨k, 0, none⟩) 3 3] 22)) (Ret (W.alloc (.cells #[.slice (some ⟨k, 0, none⟩) 3 3] 22)) (.agg V.toArray))) := Lib.hid (by
    intro W g k hg hb hTW
    rw [hV]
    exact sum1_calls W g hg _ 3 3 [97, 98, 99] hb (by omega) (by unfold maxLen; omega) (by omega) hTW)
  have hcv := fun W => conv_lit W #[.int .u8 97, .int .u8 98, .int .u8 99] 3 3
  have HT := Lib.hid hT
  have I1 := Lib.hid hiV
  have L1 := Lib.hid hVl
  have HVV := Lib.hid (And.intro v0 (And.intro v1 (And.intro v30 v31)))
  clear hT hV hiV hVl v0 v1 v30 v31
  go_enter Tryd.func9, Tryd.ntmps9
  go_wp2_with (first
    | (go_at_call 10; refine (S2.out _ _ _ (by simp) (rd_frozen w _ _) (HT.out.all ((Below.refl _ w).alloc (Nat.le_refl _) _))).mono ?_; rintro e' w1 ⟨rfl, hbel1⟩)
    | (refine at_store 25 (.tmp 1) (.tmp 5) ?_; refine wpList_store_blk rfl 25 (.tmp 1) (.tmp 5) rfl w1.heap.size _ V _ rfl rfl (Blk.new w1 _ _) (by rw [L1.out]; rfl) I1.out hV1 ?_; intro w2 hb2 ho2
       have hB1 : Below w.heap.size w w1 := (((Below.refl _ w).alloc (Nat.le_refl _) _).alloc (by simp) _).trans (hbel1.mono (by simp; omega))
       have hs0 := hB1.size
       have hB2 : Below w.heap.size w w2 := (hB1.alloc hs0 _).trans (ho2.below hs0)
       have J1 := Lib.hid hB2
       have c0 : w2.cell? ⟨w1.heap.size, 0, none⟩ = some (.int .u8 186) := (hb2.cell 0).trans HVV.out.1
       have c1 : w2.cell? ⟨w1.heap.size, 1, none⟩ = some (.int .u8 120) := (hb2.cell 1).trans HVV.out.2.1
       have c30 : w2.cell? ⟨w1.heap.size, 30, none⟩ = some (.int .u8 21) := (hb2.cell 30).trans HVV.out.2.2.1
       have c31 : w2.cell? ⟨w1.heap.size, 31, none⟩ = some (.int .u8 173) := (hb2.cell 31).trans HVV.out.2.2.2
       clear hB1 hs0 hB2 hb2 ho2 hbel1))
  go_ret
  exact ⟨rfl, J1.out⟩
end Go.Proofs.YtfnlclooneanaaaDoor
