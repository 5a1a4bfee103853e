/- Merged texts: TxnZ TxnY. -/
import Derived.Test.YthkkllcpogagiaaDoorMav
import Derived.Test.YthkkllcpogagiaaDoorMaw
import Derived.Test.YthkkllcpogagiaaDoorMau
import Derived.Test.YthkkllcpogagiaaDoorMah
import Derived.Test.YthkkllcpogagiaaDoorMad
import Derived.Test.YthkkllcpogagiaaDoorMap
/- Package txn's Bytes and Parse. -/
namespace Go.Proofs.YthkkllcpogagiaaDoor
set_option maxRecDepth 100000 in
theorem txnOk : TxnOk where
  bytes := fun W s A n c O _ hr _ _ hn hO => gtbytes_calls s A n c O W hr (by omega) (fun o ho => Nat.le_trans (hO o ho) (by omega))
  parse := fun W A n c b hr _ _ hn => gtparse_calls A n c b W hr (by omega)
end Go.Proofs.YthkkllcpogagiaaDoor

/- The contract of package txn's own Id. -/
namespace Go.Proofs.YthkkllcpogagiaaDoor
open Go.RowKit
set_option linter.unusedVariables false
set_option linter.unusedSimpArgs false

def zeroId : List Value := [.int .u8 0, .int .u8 0, .int .u8 0, .int .u8 0, .int .u8 0, .int .u8 0, .int .u8 0, .int .u8 0, .int .u8 0, .int .u8 0, .int .u8 0, .int .u8 0, .int .u8 0, .int .u8 0, .int .u8 0, .int .u8 0, .int .u8 0, .int .u8 0, .int .u8 0, .int .u8 0, .int .u8 0, .int .u8 0, .int .u8 0, .int .u8 0, .int .u8 0, .int .u8 0, .int .u8 0, .int .u8 0, .int .u8 0, .int .u8 0, .int .u8 0, .int .u8 0]
set_option maxRecDepth 100000 in
theorem rdm_txn (W : World) (A : Option Addr) (n c : Nat) (l : List UInt8) (t : TypeId) (h : Rd W A n l) (hc : n ≤ c) (hm : c ≤ maxLen) : RdM (W.alloc (.cells #[.slice A n c] t)) (some ⟨W.heap.size, 0, none⟩) 1 [l] := by
  have hb := Blk.new W #[.slice A n c] t
  refine ⟨rfl, fun _ => ⟨W.heap.size, 0, rfl, hb.lt, fun j hj => ?_⟩⟩
  have : j = 0 := by simp at hj; omega
  subst this
  exact ⟨A, n, c, hb.cell 0, hc, hm, h.below (below_al (Below.refl _ W) _)⟩
set_option maxRecDepth 100000 in
set_option maxHeartbeats 4000000 in
theorem gtid_calls (w : World) (A : Option Addr) (n c : Nat) (b : List UInt8) (hT : Tab w) (hr : Rd w A n b) (hnc : n ≤ c) (hcm : c ≤ maxLen) (hn : n ≤ 100000) : Calls Tryd.prog 11 #[.slice A n c] w (Ret w (.agg ((sha (sha b)).map B8).toArray)) := by
  have hbl := hr.len
  obtain ⟨V, hV⟩ : ∃ V, V = (sha (sha b)).map B8 := ⟨_, rfl⟩
  have IV : Hid ((Tryd.prog.info? 42).map (·.size) = some V.length) := Lib.hid (by
    rw [hV, List.length_map, sha_len]
    kernel_rfl)
  have LV : Hid (zeroId.length = V.length) := Lib.hid (by rw [hV, List.length_map, sha_len]; rfl)
  have OV : Hid (∀ v ∈ V, v.oneCell' = true) := Lib.hid (by rw [hV]; exact b8_one _)
  have hb1 : Blk (w.alloc (.cells zeroId.toArray 42)) w.heap.size zeroId 42 := Blk.new w _ _
  have HB : Below w.heap.size w (w.alloc (.cells zeroId.toArray 42)) := below_al (Below.refl _ w) _
  obtain ⟨w0, hw0⟩ : ∃ w0, w0 = w.alloc (.cells zeroId.toArray 42) := ⟨_, rfl⟩
  rw [← hw0] at hb1 HB
  have hw1 : w.alloc (.cells #[.int .u8 0, .int .u8 0, .int .u8 0, .int .u8 0, .int .u8 0, .int .u8 0, .int .u8 0, .int .u8 0, .int .u8 0, .int .u8 0, .int .u8 0, .int .u8 0, .int .u8 0, .int .u8 0, .int .u8 0, .int .u8 0, .int .u8 0, .int .u8 0, .int .u8 0, .int .u8 0, .int .u8 0, .int .u8 0, .int .u8 0, .int .u8 0, .int .u8 0, .int .u8 0, .int .u8 0, .int .u8 0, .int .u8 0, .int .u8 0, .int .u8 0, .int .u8 0] 42) = w0 := hw0.symm
  have CT : Hid (Calls Tryd.prog 28 #[.slice (some ⟨w0.heap.size, 0, none⟩) 1 1] (w0.alloc (.cells #[.slice A n c] 28)) (Ret (w0.alloc (.cells #[.slice A n c] 28)) (.agg V.toArray))) := Lib.hid (by
    rw [hV]
    have := twice_calls (w0.alloc (.cells #[.slice A n c] 28)) (some ⟨w0.heap.size, 0, none⟩) 1 1 [b] (rdm_txn w0 A n c b _ (hr.below HB) hnc hcm) ((hT.all HB).all (below_al (Below.refl _ _) _)) (by omega) (by simp; omega)
    simp only [List.flatten_cons, List.flatten_nil, List.append_nil] at this
    exact this)
  rw [← hV]
  clear hV hw0 hT hr hbl
  go_enter Tryd.func11, Tryd.ntmps11
  go_upto_region 1 with fail
  try rw [hw1]
  clear hw1
  go_wp2_with (first
    | (go_at_call 28; refine CT.out.mono ?_; rintro e' v2 ⟨rfl, d2⟩; have d12 := below_more (below_al (Below.refl _ w0) _) d2)
    | ((with_reducible refine at_store 42 (.tmp 2) (.tmp 5) ?_); refine wpList_store_blk rfl 42 (.tmp 2) (.tmp 5) rfl w.heap.size zeroId V 42 rfl rfl (hb1.up d12) LV.out IV.out OV.out ?_; intro w6 hb6 ho6))
  refine bodyPost_ret (v := .agg V.toArray) ?_ rfl ⟨rfl, below_only (below_more HB d12) ho6 (Nat.le_refl _)⟩
  exact results_one Tryd.results11 _ _ w.heap.size 42 _ (0, 0) _ (by rfl) hb6 Tryd.underlying42 rfl IV.out
set_option maxRecDepth 100000 in
theorem txnId : TxnId where
  id := fun W A n c b hT hr hnc hcm hn => gtid_calls W A n c b hT hr hnc hcm hn
end Go.Proofs.YthkkllcpogagiaaDoor
