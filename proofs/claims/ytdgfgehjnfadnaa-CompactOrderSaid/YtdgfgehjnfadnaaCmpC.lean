/- The contract of compact.Canon. -/
import Derived.Test.YtdgfgehjnfadnaaCmpT
import Derived.Test.YtdgfgehjnfadnaaCmpG
import Derived.Deep.RegionHeld3
import Derived.Deep.CutRange
import Derived.Deep.DeepCutAuto
namespace Go.Proofs.Ytdgfgehjnfadnaa
open Go.RowKit
set_option linter.unusedVariables false
set_option linter.unusedSimpArgs false

set_option maxRecDepth 100000 in
set_option maxHeartbeats 4000000 in
theorem canon_yes (c : Nat) (w : World) (hc : c < 2 ^ 32) (ht : tgt c = true) (B : Bool) (hB : decide (bitsN (valC c) = c) = B) : Calls Try.prog 12 #[.int .u32 (c : Int)] w (Ret w (.bool B)) := by
  have hl : valC c < 2 ^ 256 := by
    unfold tgt at ht
    simp only [Bool.and_eq_true, decide_eq_true_eq] at ht
    exact ht.2
  obtain ⟨v, hv⟩ : ∃ v, v = valC c := ⟨_, rfl⟩
  obtain ⟨b, hb⟩ : ∃ b, b = bitsN v := ⟨_, rfl⟩
  obtain ⟨V, hV⟩ : ∃ X, X = cellsW (wd v) := ⟨_, rfl⟩
  have IV : Hid ((Try.prog.info? 25).map (·.size) = some V.length) := Lib.hid (by rw [hV]; exact sizeW _)
  have LV : Hid (zerosW.length = V.length) := Lib.hid (by rw [hV]; rfl)
  have OV : Hid (∀ v ∈ V, v.oneCell' = true) := Lib.hid (by rw [hV]; exact cellsW_one _)
  have CT : Hid (∀ W, Calls Try.prog 10 #[.int .u32 (c : Int)] W (Ret W (.tuple #[.agg V.toArray, .int .i64 0]))) := Lib.hid (fun W => by rw [hV, hv]; exact ctarget_yes c W hc ht)
  have CB : Hid (∀ W, Calls Try.prog 16 #[.agg V.toArray] W (Ret W (.int .u32 (b : Int)))) := Lib.hid (fun W => by rw [hV, hb]; exact cbits_calls v W (by rw [hv]; exact hl))
  rw [← hv, ← hb] at hB
  have q1 : ((b : Int) == (c : Int)) = B := by rw [← hB]; show decide _ = decide _; apply decide_eq_decide.2; omega
  have q2 : decide ((b : Int) = (c : Int)) = B := by rw [← hB]; apply decide_eq_decide.2; omega
  have q3 : (b == c) = B := by rw [← hB]; rfl
  clear hV hv hb hc ht hl hB
  go_enter Try.func12, Try.ntmps12
  go_wp2_with (first
    | (go_at_call 10; refine (CT.out _).mono ?_; rintro e' v1 ⟨rfl, d1⟩)
    | ((with_reducible refine at_store 25 (.tmp 3) (.tmp 8) ?_); refine wpList_store_blk rfl 25 (.tmp 3) (.tmp 8) rfl v1.heap.size zerosW V _ rfl rfl (Blk.new v1 _ _) LV.out IV.out OV.out ?_; intro w2 hbw2 how2; have dw2 := Only.still how2; clear how2)
    | ((with_reducible refine at_loadg 25 (.tmp 3) ?_); refine wpList_load_midg ?_ 25 (.tmp 3) rfl (v1.heap.size) 0 rfl V _ (Blk.range (t := 25) (by ((repeat (first | with_reducible assumption | with_reducible apply Blk.alloc | with_reducible apply Blk.drew | with_reducible refine Blk.step ?_ (by assumption) | with_reducible refine Blk.stepS ?_ (by assumption)))))) Try.underlying25 rfl IV.out ?_; (focus (simp [Region.wanted, yielded, Act.put]; done)))
    | (go_at_call 16; refine (CB.out _).mono ?_; rintro e' v3 ⟨rfl, d3⟩))
  go_ret
  exact ⟨rfl, show Still w v3 by ((repeat (first | with_reducible exact Still.refl _ | with_reducible assumption | with_reducible apply Still.alloc | with_reducible apply Still.drew | with_reducible refine Still.step ?_ (by assumption) | with_reducible refine Still.trans ?_ (by assumption))))⟩
set_option maxRecDepth 100000 in
set_option maxHeartbeats 4000000 in
theorem canon_none (c : Nat) (w : World) (hc : c < 2 ^ 32) (ht : tgt c = false) : Calls Try.prog 12 #[.int .u32 (c : Int)] w (Ret w (.bool false)) := by
  obtain ⟨v, hv⟩ : ∃ v, v = 0 := ⟨_, rfl⟩
  obtain ⟨V, hV⟩ : ∃ X, X = cellsW (wd v) := ⟨_, rfl⟩
  have IV : Hid ((Try.prog.info? 25).map (·.size) = some V.length) := Lib.hid (by rw [hV]; exact sizeW _)
  have LV : Hid (zerosW.length = V.length) := Lib.hid (by rw [hV]; rfl)
  have OV : Hid (∀ v ∈ V, v.oneCell' = true) := Lib.hid (by rw [hV]; exact cellsW_one _)
  have CT : Hid (∀ W, Calls Try.prog 10 #[.int .u32 (c : Int)] W (Ret W (.tuple #[.agg V.toArray, .int .i64 5]))) := Lib.hid (fun W => by rw [hV, hv]; exact ctarget_no c W hc ht)
  clear hV hv hc ht
  go_enter Try.func12, Try.ntmps12
  go_wp2_with (first
    | (go_at_call 10; refine (CT.out _).mono ?_; rintro e' v1 ⟨rfl, d1⟩)
    | ((with_reducible refine at_store 25 (.tmp 3) (.tmp 8) ?_); refine wpList_store_blk rfl 25 (.tmp 3) (.tmp 8) rfl v1.heap.size zerosW V _ rfl rfl (Blk.new v1 _ _) LV.out IV.out OV.out ?_; intro w2 hbw2 how2; have dw2 := Only.still how2; clear how2)
    | ((with_reducible refine at_loadg 25 (.tmp 3) ?_); refine wpList_load_midg ?_ 25 (.tmp 3) rfl (v1.heap.size) 0 rfl V _ (Blk.range (t := 25) (by ((repeat (first | with_reducible assumption | with_reducible apply Blk.alloc | with_reducible apply Blk.drew | with_reducible refine Blk.step ?_ (by assumption) | with_reducible refine Blk.stepS ?_ (by assumption)))))) Try.underlying25 rfl IV.out ?_; (focus (simp [Region.wanted, yielded, Act.put]; done))))
  go_ret
  exact ⟨rfl, show Still w w2 by ((repeat (first | with_reducible exact Still.refl _ | with_reducible assumption | with_reducible apply Still.alloc | with_reducible apply Still.drew | with_reducible refine Still.step ?_ (by assumption) | with_reducible refine Still.trans ?_ (by assumption))))⟩
theorem canon_calls (c : Nat) (w : World) (hc : c < 2 ^ 32) : Calls Try.prog 12 #[.int .u32 (c : Int)] w (Ret w (.bool (canonC c))) := by
  unfold canonC
  cases ht : tgt c
  · exact canon_none c w hc ht
  · exact canon_yes c w hc ht _ rfl
end Go.Proofs.Ytdgfgehjnfadnaa
