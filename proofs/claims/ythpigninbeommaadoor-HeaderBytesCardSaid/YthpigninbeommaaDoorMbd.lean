/- Merged texts: HdrC. -/
import Derived.Test.YthpigninbeommaaDoorMbc
import Derived.Test.YthpigninbeommaaDoorMaw
import Derived.Test.YthpigninbeommaaDoorMbb
import Derived.Test.YthpigninbeommaaDoorMam
/- The contract of the document's own Hash of layer 7. -/
namespace Go.Proofs.YthpigninbeommaaDoor
open Go.RowKit
set_option linter.unusedVariables false
set_option linter.unusedSimpArgs false

set_option maxRecDepth 100000 in
theorem Hd.size {h : Hd} (o : h.ok) : (Tryd.prog.info? 34).map (·.size) = some h.cells.length := by
  rw [Hd.cells_len o]
  kernel_rfl
set_option maxRecDepth 100000 in
set_option maxHeartbeats 4000000 in
theorem hhash_calls (h : Hd) (o : h.ok) (w : World) : Calls Tryd.prog 12 #[.agg h.cells.toArray] w (Ret w (.agg (h.hash.map B8).toArray)) := by
  obtain ⟨X, hX⟩ : ∃ X, X = h.cells := ⟨_, rfl⟩
  obtain ⟨sb, hsb⟩ : ∃ sb : ByteArray, sb = ⟨h.bytes.toArray⟩ := ⟨_, rfl⟩
  obtain ⟨V, hV⟩ : ∃ V, V = h.hash.map B8 := ⟨_, rfl⟩
  have IX : Hid ((Tryd.prog.info? 34).map (·.size) = some X.length) := Lib.hid (by rw [hX]; exact Hd.size o)
  have IV : Hid ((Tryd.prog.info? 23).map (·.size) = some V.length) := Lib.hid (by
    rw [hV, List.length_map, Hd.hash_len]
    kernel_rfl)
  have LV : Hid (zeros32.length = V.length) := Lib.hid (by rw [hV, List.length_map, Hd.hash_len]; rfl)
  have OV : Hid (∀ v ∈ V, v.oneCell' = true) := Lib.hid (by rw [hV]; exact b8_one _)
  have CB : Hid (∀ W, Calls Tryd.prog 9 #[.agg X.toArray] W (Ret W (.string sb))) := Lib.hid fun W => by rw [hX, hsb]; exact hbytes_calls h o W
  have CT : Hid (∀ W, Calls Tryd.prog 28 #[.string sb] W (Ret W (.agg V.toArray))) := Lib.hid fun W => by
    rw [hV, hsb]
    exact rtwice_calls _ W (by rw [bstr_size, Hd.bytes_len o]; omega)
  rw [← hX, ← hV]
  have hb0 : Blk ((w.alloc (.cells X.toArray 34)).alloc (.cells zeros32.toArray 23)) w.heap.size X 34 := Blk.alloc (Blk.new w X.toArray _) _
  have hb1 : Blk ((w.alloc (.cells X.toArray 34)).alloc (.cells zeros32.toArray 23)) (w.heap.size + 1) zeros32 23 := Blk.new' _ _ _ _ (by simp)
  have HB := below2 w (.cells X.toArray 34) (.cells zeros32.toArray 23)
  obtain ⟨w0, hw0⟩ : ∃ w0, w0 = (w.alloc (.cells X.toArray 34)).alloc (.cells zeros32.toArray 23) := ⟨_, rfl⟩
  rw [← hw0] at hb0 hb1 HB
  have hw1 : (w.alloc (.cells X.toArray 34)).alloc (.cells #[.int .u8 0, .int .u8 0, .int .u8 0, .int .u8 0, .int .u8 0, .int .u8 0, .int .u8 0, .int .u8 0, .int .u8 0, .int .u8 0, .int .u8 0, .int .u8 0, .int .u8 0, .int .u8 0, .int .u8 0, .int .u8 0, .int .u8 0, .int .u8 0, .int .u8 0, .int .u8 0, .int .u8 0, .int .u8 0, .int .u8 0, .int .u8 0, .int .u8 0, .int .u8 0, .int .u8 0, .int .u8 0, .int .u8 0, .int .u8 0, .int .u8 0, .int .u8 0] 23) = w0 := hw0.symm
  clear hX hsb hV hw0 o
  go_enter Tryd.func12, Tryd.ntmps12
  go_upto_region 1 with fail
  try rw [hw1]
  clear hw1
  go_wp2_with (first
    | ((with_reducible refine at_load 34 (.tmp 1) ?_); refine wpList_load_mid rfl 34 (.tmp 1) rfl w.heap.size 0 rfl X _ hb0.range Tryd.underlying34 rfl IX.out ?_)
    | (go_at_call 9; refine (CB.out _).mono ?_; rintro e' v1 ⟨rfl, d1⟩)
    | (go_at_call 28; refine (CT.out _).mono ?_; rintro e' v2 ⟨rfl, d2⟩; have d12 := below_more d1 d2)
    | ((with_reducible refine at_store 23 (.tmp 2) (.tmp 5) ?_); refine wpList_store_blk rfl 23 (.tmp 2) (.tmp 5) rfl (w.heap.size + 1) zeros32 V 23 rfl rfl (hb1.up d12) LV.out IV.out OV.out ?_; intro w6 hb6 ho6))
  refine bodyPost_ret (v := .agg V.toArray) ?_ rfl ⟨rfl, below_only (below_more HB d12) ho6 (by omega)⟩
  exact results_one Tryd.results12 _ _ (w.heap.size + 1) 23 _ (0, 0) _ (by rfl) hb6 Tryd.underlying23 rfl IV.out
end Go.Proofs.YthpigninbeommaaDoor
