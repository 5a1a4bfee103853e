/- Merged texts: HdrH. -/
import Derived.Test.YthpigninbeommaaDoorMbv
import Derived.Test.YthpigninbeommaaDoorMax
/- The contracts of Seek, package header's own and the document's. -/
namespace Go.Proofs.YthpigninbeommaaDoor
open Go.RowKit
set_option linter.unusedVariables false
set_option linter.unusedSimpArgs false

/-- The header with the next nonce. -/
def Hd.nx (h : Hd) : Hd := { h with n := (h.n + 1) % 4294967296 }
set_option maxRecDepth 100000 in
theorem Hd.nx_ok {h : Hd} (o : h.ok) : h.nx.ok := { o with n := Nat.mod_lt _ (by decide) }
/-- The first of so many headers that meets its target. -/
def seekN : Nat → Hd → Option Hd
  | 0, _ => none
  | k + 1, h => if h.meets then some h else seekN k h.nx
def seekR (r : Option Hd) : Hd := r.getD Hd.zero
set_option maxRecDepth 100000 in
theorem seek_ok : ∀ (k : Nat) (h g : Hd), h.ok → seekN k h = some g → g.ok ∧ g.meets = true
  | 0, _, _, _, e => by simp [seekN] at e
  | k + 1, h, g, o, e => by
    unfold seekN at e
    by_cases hm : h.meets = true
    · rw [if_pos hm] at e
      injection e with e
      rw [← e]
      exact ⟨o, hm⟩
    · rw [if_neg hm] at e
      exact seek_ok k h.nx g (Hd.nx_ok o) e
set_option maxRecDepth 100000 in
set_option maxHeartbeats 4000000 in
theorem gseek_calls (h : Hd) (o : h.ok) (k : Int) (hk : k ≤ 12) (w : World) (hT : Tab w) : Calls Tryd.prog 16 #[.agg h.cells.toArray, .int .i64 k] w (Ret w (.tuple #[.agg (seekR (seekN k.toNat h)).cells.toArray, .bool (seekN k.toNat h).isSome])) := by
  obtain ⟨m, hm⟩ : ∃ m, m = k.toNat := ⟨_, rfl⟩
  have hkl : k ≤ 65536 := by omega
  have hkm : min k 65536 = k := by omega
  have hzv := zeroH
  have S0 : Hid ((Tryd.prog.info? 26).map (·.size) = some Hd.zero.cells.length) := Lib.hid (Hd.sizeG Hd.zero_ok)
  rw [← hm]
  have hb0 : Blk ((w.alloc (.cells h.cells.toArray 26)).alloc (.cells Hd.zero.cells.toArray 26)) w.heap.size h.cells 26 := Blk.alloc (Blk.new w h.cells.toArray _) _
  have hb1 : Blk ((w.alloc (.cells h.cells.toArray 26)).alloc (.cells Hd.zero.cells.toArray 26)) (w.heap.size + 1) Hd.zero.cells 26 := Blk.new' _ _ _ _ (by simp)
  have HB := below2 w (.cells h.cells.toArray 26) (.cells Hd.zero.cells.toArray 26)
  obtain ⟨R, hR⟩ : ∃ R, R = seekN m h := ⟨_, rfl⟩
  rw [← hR]
  obtain ⟨X0, hX0⟩ : ∃ X0, X0 = h.cells := ⟨_, rfl⟩
  rw [← hX0]
  rw [← hX0] at hb0 hb1 HB
  have H0 := Lib.hid (And.intro hX0 (And.intro hR o))
  have HM := Lib.hid hm
  have HT := Lib.hid hT
  clear hX0 hR o hm hT
  go_enter Tryd.func16, Tryd.ntmps16
  go_wp2
  go_loopw [8] (fun i wr => ∃ (t : Nat) (g : Hd), t ≤ m ∧ i = .int .i64 (t : Int) ∧ g.ok ∧ R = seekN (m - t) g ∧ Blk wr w.heap.size g.cells 26 ∧ Blk wr (w.heap.size + 1) Hd.zero.cells 26 ∧ Below w.heap.size w wr) (fun i _ => m - (intOf i).toNat)
  case atStart =>
    obtain ⟨k1, k2, k3⟩ := H0.out
    exact ⟨0, h, by omega, by first | rfl | go_num, k3, by simpa using k2, by rw [← k1]; exact hb0, hb1, HB⟩
  case round =>
    obtain ⟨t, g, htm, rfl, og, hsk, hbh, hbz, hbel⟩ := hrel
    clear hb0 hb1 HB
    have hm := HM.out
    by_cases hlt : t < m
    · have hlt' : (t : Int) < k := by omega
      have hltd : decide ((t : Int) < k) = true := by simp [hlt']
      obtain ⟨X, hX⟩ : ∃ X, X = g.cells := ⟨_, rfl⟩
      have IX : Hid ((Tryd.prog.info? 26).map (·.size) = some X.length) := Lib.hid (by rw [hX]; exact Hd.sizeG og)
      have OX : Hid (∀ v ∈ X, v.oneCell' = true) := Lib.hid (by rw [hX]; exact Hd.one _)
      have LX : Hid (Hd.zero.cells.length = X.length) := Lib.hid (by rw [hX, Hd.cells_len og]; rfl)
      rw [← hX] at hbh
      by_cases hmt : g.meets = true
      · have CM : Hid (Calls Tryd.prog 14 #[.agg X.toArray] wr (Ret wr (.bool true))) := Lib.hid (by rw [hX]; have := gmeets_calls g og wr (HT.out.all hbel); rw [hmt] at this; exact this)
        have hRg : R = some g := by rw [hsk, show m - t = (m - (t + 1)) + 1 from by omega, seekN, hmt]; rfl
        have HX := Lib.hid hX
        have HRG := Lib.hid hRg
        clear hX hRg hsk og hmt hm
        go_wp2_with (first
          | ((with_reducible refine at_load 26 (.tmp 2) ?_); first | (refine wpList_load_mid rfl 26 (.tmp 2) rfl w.heap.size 0 rfl X _ hb1.range Tryd.underlying26 rfl IX.out ?_) | (refine wpList_load_mid rfl 26 (.tmp 2) rfl w.heap.size 0 rfl X _ hbh.range Tryd.underlying26 rfl IX.out ?_))
          | (go_at_call 14; refine CM.out.mono ?_; rintro e' v1 ⟨rfl, d1⟩; have hb1 := hbh.up d1; have hbz1 := hbz.up d1)
          | ((with_reducible refine at_store 26 (.tmp 4) (.tmp 12) ?_); refine wpList_store_blk rfl 26 (.tmp 4) (.tmp 12) rfl (w.heap.size + 1) Hd.zero.cells X 26 rfl rfl hbz1 LX.out IX.out OX.out ?_; intro w6 hb6 ho6))
        refine bodyPost_ret (v := .tuple #[.agg X.toArray, .bool true]) ?_ rfl ⟨by rw [HRG.out, HX.out]; rfl, below_only (below_more hbel d1) ho6 (by omega)⟩
        exact results_err Tryd.results16 _ _ (w.heap.size + 1) 26 _ _ _ (by rfl) (by rfl) hb6 Tryd.underlying26 rfl IX.out
      · have hmt : g.meets = false := by simpa using hmt
        have CM : Hid (Calls Tryd.prog 14 #[.agg X.toArray] wr (Ret wr (.bool false))) := Lib.hid (by rw [hX]; have := gmeets_calls g og wr (HT.out.all hbel); rw [hmt] at this; exact this)
        obtain ⟨n0, hn0⟩ : ∃ n, n = g.n := ⟨_, rfl⟩
        obtain ⟨nx, hnx⟩ : ∃ n, n = (n0 + 1) % 4294967296 := ⟨_, rfl⟩
        have bn0 : n0 < 4294967296 := by rw [hn0]; exact og.n
        have C67 : Hid (X[67]? = some (.int .u32 (n0 : Int))) := Lib.hid (by rw [hX, hn0]; exact og.cn)
        have hgx : Hid (g.nx = { g with n := nx }) := Lib.hid (by rw [hnx, hn0]; rfl)
        have HX := Lib.hid hX
        · clear hX hn0
          have wn : IntKind.u32.wrap ((n0 : Int) + 1) = (nx : Int) := by rw [IntKind.wrap_u32]; omega
          go_wp2_with (first
              | ((with_reducible refine at_load 26 (.tmp 2) ?_); refine wpList_load_mid rfl 26 (.tmp 2) rfl w.heap.size 0 rfl X _ hbh.range Tryd.underlying26 rfl IX.out ?_)
              | (go_at_call 14; refine CM.out.mono ?_; rintro e' v1 ⟨rfl, d1⟩; have hb1 := hbh.up d1; have hc1 : v1.cell? ⟨w.heap.size, 67, none⟩ = some (.int .u32 (n0 : Int)) := (hb1.cell 67).trans C67.out; have hz1 : v1.frozen? ⟨w.heap.size, 67, none⟩ = false := hb1.free 67; have HB1 := Lib.hid (And.intro hb1 (And.intro (hbz.up d1) (below_more hbel d1))); clear hb1))
          go_roundw
          case rel =>
            refine ⟨t + 1, g.nx, by omega, by first | rfl | go_num, Hd.nx_ok og, ?_, ?_, ?_, ?_⟩
            · rw [hsk, show m - t = (m - (t + 1)) + 1 from by omega, seekN, hmt]; rfl
            · have := HB1.out.1.set 67 (.int .u32 (nx : Int))
              rw [HX.out, og.set_n] at this
              rw [hgx.out]
              rw [show ((n0 : Int) + 1) % 4294967296 = (nx : Int) from by omega]; exact this
            · exact HB1.out.2.1.set_other _ _ (by simp)
            · exact HB1.out.2.2.setCell (by simp) _
          case measure => simp [intOf]; omega
    · have hlt' : ¬ (t : Int) < k := by omega
      have hltd : decide ((t : Int) < k) = false := by simp [hlt']
      have hRn : R = none := by rw [hsk, show m - t = 0 from by omega]; rfl
      have HRN := Lib.hid hRn
      clear hsk hRn hbh og
      go_wp2_with ((with_reducible refine at_store 26 (.tmp 4) (.tmp 18) ?_); refine wpList_store_blk rfl 26 (.tmp 4) (.tmp 18) rfl (w.heap.size + 1) Hd.zero.cells Hd.zero.cells 26 rfl rfl hbz rfl S0.out (Hd.one Hd.zero) ?_; intro w6 hb6 ho6)
      refine bodyPost_ret (v := .tuple #[.agg Hd.zero.cells.toArray, .bool false]) ?_ rfl ⟨by rw [HRN.out]; rfl, below_only hbel ho6 (by omega)⟩
      exact results_err Tryd.results16 _ _ (w.heap.size + 1) 26 _ _ _ (by rfl) (by rfl) hb6 Tryd.underlying26 rfl S0.out
set_option maxRecDepth 100000 in
set_option maxHeartbeats 4000000 in
theorem dseek_calls (h : Hd) (o : h.ok) (k : Int) (hk : k ≤ 12) (w : World) : Calls Tryd.prog 17 #[.agg h.cells.toArray, .int .i64 k] w (Ret w (.tuple #[.agg (seekR (seekN k.toNat h)).cells.toArray, .bool (seekN k.toNat h).isSome])) := by
  obtain ⟨m, hm⟩ : ∃ m, m = k.toNat := ⟨_, rfl⟩
  have hkl : k ≤ 65536 := by omega
  have hkm : min k 65536 = k := by omega
  have hzv := zeroR
  have S0 : Hid ((Tryd.prog.info? 34).map (·.size) = some Hd.zero.cells.length) := Lib.hid (Hd.sizeR Hd.zero_ok)
  rw [← hm]
  have hb0 : Blk ((w.alloc (.cells h.cells.toArray 34)).alloc (.cells Hd.zero.cells.toArray 34)) w.heap.size h.cells 34 := Blk.alloc (Blk.new w h.cells.toArray _) _
  have hb1 : Blk ((w.alloc (.cells h.cells.toArray 34)).alloc (.cells Hd.zero.cells.toArray 34)) (w.heap.size + 1) Hd.zero.cells 34 := Blk.new' _ _ _ _ (by simp)
  have HB := below2 w (.cells h.cells.toArray 34) (.cells Hd.zero.cells.toArray 34)
  obtain ⟨R, hR⟩ : ∃ R, R = seekN m h := ⟨_, rfl⟩
  rw [← hR]
  obtain ⟨X0, hX0⟩ : ∃ X0, X0 = h.cells := ⟨_, rfl⟩
  rw [← hX0]
  rw [← hX0] at hb0 hb1 HB
  have H0 := Lib.hid (And.intro hX0 (And.intro hR o))
  have HM := Lib.hid hm
  skip
  clear hX0 hR o hm
  go_enter Tryd.func17, Tryd.ntmps17
  go_wp2
  go_loopw [6] (fun i wr => ∃ (t : Nat) (g : Hd), t ≤ m ∧ i = .int .i64 (t : Int) ∧ g.ok ∧ R = seekN (m - t) g ∧ Blk wr w.heap.size g.cells 34 ∧ Blk wr (w.heap.size + 1) Hd.zero.cells 34 ∧ Below w.heap.size w wr) (fun i _ => m - (intOf i).toNat)
  case atStart =>
    obtain ⟨k1, k2, k3⟩ := H0.out
    exact ⟨0, h, by omega, by first | rfl | go_num, k3, by simpa using k2, by rw [← k1]; exact hb0, hb1, HB⟩
  case round =>
    obtain ⟨t, g, htm, rfl, og, hsk, hbh, hbz, hbel⟩ := hrel
    clear hb0 hb1 HB
    have hm := HM.out
    by_cases hlt : t < m
    · have hlt' : (t : Int) < k := by omega
      have hltd : decide ((t : Int) < k) = true := by simp [hlt']
      obtain ⟨X, hX⟩ : ∃ X, X = g.cells := ⟨_, rfl⟩
      have IX : Hid ((Tryd.prog.info? 34).map (·.size) = some X.length) := Lib.hid (by rw [hX]; exact Hd.sizeR og)
      have OX : Hid (∀ v ∈ X, v.oneCell' = true) := Lib.hid (by rw [hX]; exact Hd.one _)
      have LX : Hid (Hd.zero.cells.length = X.length) := Lib.hid (by rw [hX, Hd.cells_len og]; rfl)
      rw [← hX] at hbh
      by_cases hmt : g.meets = true
      · have CM : Hid (Calls Tryd.prog 15 #[.agg X.toArray] wr (Ret wr (.bool true))) := Lib.hid (by rw [hX]; have := dmeets_calls g og wr; rw [hmt] at this; exact this)
        have hRg : R = some g := by rw [hsk, show m - t = (m - (t + 1)) + 1 from by omega, seekN, hmt]; rfl
        have HX := Lib.hid hX
        have HRG := Lib.hid hRg
        clear hX hRg hsk og hmt hm
        go_wp2_with (first
          | ((with_reducible refine at_load 34 (.tmp 2) ?_); first | (refine wpList_load_mid rfl 34 (.tmp 2) rfl w.heap.size 0 rfl X _ hb1.range Tryd.underlying34 rfl IX.out ?_) | (refine wpList_load_mid rfl 34 (.tmp 2) rfl w.heap.size 0 rfl X _ hbh.range Tryd.underlying34 rfl IX.out ?_))
          | (go_at_call 15; refine CM.out.mono ?_; rintro e' v1 ⟨rfl, d1⟩; have hb1 := hbh.up d1; have hbz1 := hbz.up d1)
          | ((with_reducible refine at_store 34 (.tmp 4) (.tmp 14) ?_); refine wpList_store_blk rfl 34 (.tmp 4) (.tmp 14) rfl (w.heap.size + 1) Hd.zero.cells X 34 rfl rfl hbz1 LX.out IX.out OX.out ?_; intro w6 hb6 ho6))
        refine bodyPost_ret (v := .tuple #[.agg X.toArray, .bool true]) ?_ rfl ⟨by rw [HRG.out, HX.out]; rfl, below_only (below_more hbel d1) ho6 (by omega)⟩
        exact results_err Tryd.results17 _ _ (w.heap.size + 1) 34 _ _ _ (by rfl) (by rfl) hb6 Tryd.underlying34 rfl IX.out
      · have hmt : g.meets = false := by simpa using hmt
        have CM : Hid (Calls Tryd.prog 15 #[.agg X.toArray] wr (Ret wr (.bool false))) := Lib.hid (by rw [hX]; have := dmeets_calls g og wr; rw [hmt] at this; exact this)
        obtain ⟨n0, hn0⟩ : ∃ n, n = g.n := ⟨_, rfl⟩
        obtain ⟨nx, hnx⟩ : ∃ n, n = (n0 + 1) % 4294967296 := ⟨_, rfl⟩
        have bn0 : n0 < 4294967296 := by rw [hn0]; exact og.n
        have C67 : Hid (X[67]? = some (.int .u32 (n0 : Int))) := Lib.hid (by rw [hX, hn0]; exact og.cn)
        have hgx : Hid (g.nx = { g with n := nx }) := Lib.hid (by rw [hnx, hn0]; rfl)
        have HX := Lib.hid hX
        · clear hX hn0
          have hst : IntKind.u32.wrap ((n0 : Int) + 1) = (((n0 + 1) % 4294967296 : Nat) : Int) := by rw [IntKind.wrap_u32]; omega
          by_cases hn : n0 = 4294967295
          · have hn1 : (n0 : Int) = 4294967295 := by omega
            have e9 : (nx : Int) = 0 := by rw [hnx, hn]; rfl
            have hnd : decide ((n0 : Int) = 4294967295) = true := by simp [hn1]
            go_wp2_with (first
              | ((with_reducible refine at_load 34 (.tmp 2) ?_); refine wpList_load_mid rfl 34 (.tmp 2) rfl w.heap.size 0 rfl X _ hbh.range Tryd.underlying34 rfl IX.out ?_)
              | (go_at_call 15; refine CM.out.mono ?_; rintro e' v1 ⟨rfl, d1⟩; have hb1 := hbh.up d1; have hc1 : v1.cell? ⟨w.heap.size, 67, none⟩ = some (.int .u32 (n0 : Int)) := (hb1.cell 67).trans C67.out; have hz1 : v1.frozen? ⟨w.heap.size, 67, none⟩ = false := hb1.free 67; have HB1 := Lib.hid (And.intro hb1 (And.intro (hbz.up d1) (below_more hbel d1))); clear hb1))
            go_roundw
            case rel =>
              refine ⟨t + 1, g.nx, by omega, by first | rfl | go_num, Hd.nx_ok og, ?_, ?_, ?_, ?_⟩
              · rw [hsk, show m - t = (m - (t + 1)) + 1 from by omega, seekN, hmt]; rfl
              · have := HB1.out.1.set 67 (.int .u32 (nx : Int))
                rw [HX.out, og.set_n] at this
                rw [hgx.out]
                rw [e9] at this; exact this
              · exact HB1.out.2.1.set_other _ _ (by simp)
              · exact HB1.out.2.2.setCell (by simp) _
            case measure => simp [intOf]; omega
          · have hn1 : ¬ (n0 : Int) = 4294967295 := by omega
            have hnd : decide ((n0 : Int) = 4294967295) = false := by simp [hn1]
            have wn : IntKind.u32.wrap ((n0 : Int) + 1) = (nx : Int) := by rw [IntKind.wrap_u32]; omega
            go_wp2_with (first
              | ((with_reducible refine at_load 34 (.tmp 2) ?_); refine wpList_load_mid rfl 34 (.tmp 2) rfl w.heap.size 0 rfl X _ hbh.range Tryd.underlying34 rfl IX.out ?_)
              | (go_at_call 15; refine CM.out.mono ?_; rintro e' v1 ⟨rfl, d1⟩; have hb1 := hbh.up d1; have hc1 : v1.cell? ⟨w.heap.size, 67, none⟩ = some (.int .u32 (n0 : Int)) := (hb1.cell 67).trans C67.out; have hz1 : v1.frozen? ⟨w.heap.size, 67, none⟩ = false := hb1.free 67; have HB1 := Lib.hid (And.intro hb1 (And.intro (hbz.up d1) (below_more hbel d1))); clear hb1))
            go_roundw
            case rel =>
              refine ⟨t + 1, g.nx, by omega, by first | rfl | go_num, Hd.nx_ok og, ?_, ?_, ?_, ?_⟩
              · rw [hsk, show m - t = (m - (t + 1)) + 1 from by omega, seekN, hmt]; rfl
              · have := HB1.out.1.set 67 (.int .u32 (nx : Int))
                rw [HX.out, og.set_n] at this
                rw [hgx.out]
                rw [show ((n0 : Int) + 1) % 4294967296 = (nx : Int) from by omega]; exact this
              · exact HB1.out.2.1.set_other _ _ (by simp)
              · exact HB1.out.2.2.setCell (by simp) _
            case measure => simp [intOf]; omega
    · have hlt' : ¬ (t : Int) < k := by omega
      have hltd : decide ((t : Int) < k) = false := by simp [hlt']
      have hRn : R = none := by rw [hsk, show m - t = 0 from by omega]; rfl
      have HRN := Lib.hid hRn
      clear hsk hRn hbh og
      go_wp2_with ((with_reducible refine at_store 34 (.tmp 4) (.tmp 23) ?_); refine wpList_store_blk rfl 34 (.tmp 4) (.tmp 23) rfl (w.heap.size + 1) Hd.zero.cells Hd.zero.cells 34 rfl rfl hbz rfl S0.out (Hd.one Hd.zero) ?_; intro w6 hb6 ho6)
      refine bodyPost_ret (v := .tuple #[.agg Hd.zero.cells.toArray, .bool false]) ?_ rfl ⟨by rw [HRN.out]; rfl, below_only hbel ho6 (by omega)⟩
      exact results_err Tryd.results17 _ _ (w.heap.size + 1) 34 _ _ _ (by rfl) (by rfl) hb6 Tryd.underlying34 rfl S0.out
end Go.Proofs.YthpigninbeommaaDoor
