/- Merged texts: ShaB ShaH. -/
import Derived.Test.YthkkllcpogagiaaDoorMad
/- The contract of sha2.Block: what processing a block leaves of a state. -/
namespace Go.Proofs.YthkkllcpogagiaaDoor
open Go.RowKit
set_option linter.unusedVariables false
attribute [local go_sem] size_setCells

set_option maxRecDepth 100000 in
set_option maxHeartbeats 1000000 in
theorem block_calls (s : St) (B : List UInt8) (w : World) (hs : s.ok) (hB : B.length = 64) (hT : Tab w) :
    Calls Tryd.prog 49 #[.agg s.arr, .agg (B.map B8).toArray] w (Ret w (.agg (comp s B).arr)) := by
  obtain ⟨M, hM⟩ : ∃ M, M = w.heap.size := ⟨_, rfl⟩
  have HT := Lib.hid hT
  clear hT
  go_enter Tryd.func49, Tryd.ntmps49
  have b0 : Blk (((w.alloc (.cells s.arr 83)).alloc (.cells (B.map B8).toArray 94)).alloc (.cells #[.int .u32 0, .int .u32 0, .int .u32 0, .int .u32 0, .int .u32 0, .int .u32 0, .int .u32 0, .int .u32 0] 83)) w.heap.size s.vals 83 := ((Blk.new w s.arr _).alloc _).alloc _
  have b1 : Blk (((w.alloc (.cells s.arr 83)).alloc (.cells (B.map B8).toArray 94)).alloc (.cells #[.int .u32 0, .int .u32 0, .int .u32 0, .int .u32 0, .int .u32 0, .int .u32 0, .int .u32 0, .int .u32 0] 83)) (w.heap.size + 1) (B.map B8) 94 := (Blk.new' (w.alloc _) _ _ _ (by simp)).alloc _
  have b2 : Blk (((w.alloc (.cells s.arr 83)).alloc (.cells (B.map B8).toArray 94)).alloc (.cells #[.int .u32 0, .int .u32 0, .int .u32 0, .int .u32 0, .int .u32 0, .int .u32 0, .int .u32 0, .int .u32 0] 83)) (w.heap.size + 1 + 1) [.int .u32 0, .int .u32 0, .int .u32 0, .int .u32 0, .int .u32 0, .int .u32 0, .int .u32 0, .int .u32 0] 83 := Blk.new' ((w.alloc _).alloc _) _ _ _ (by simp)
  have bb : Below w.heap.size w (((w.alloc (.cells s.arr 83)).alloc (.cells (B.map B8).toArray 94)).alloc (.cells #[.int .u32 0, .int .u32 0, .int .u32 0, .int .u32 0, .int .u32 0, .int .u32 0, .int .u32 0, .int .u32 0] 83)) := (((Below.refl _ w).alloc (Nat.le_refl _) _).alloc (by simp) _).alloc (by simp; omega) _
  have hsz : (((w.alloc (.cells s.arr 83)).alloc (.cells (B.map B8).toArray 94)).alloc (.cells #[.int .u32 0, .int .u32 0, .int .u32 0, .int .u32 0, .int .u32 0, .int .u32 0, .int .u32 0, .int .u32 0] 83)).heap.size = w.heap.size + 3 := by simp
  have R1 := Lib.hid b1.range
  have X := Lib.hid (And.intro b0 (And.intro b2 (And.intro bb hsz)))
  clear b0 b1 b2 bb hsz
  have hi64 : (Tryd.prog.info? 94).map (·.size) = some (B.map B8).length := by rw [List.length_map, hB]; exact ib64
  have HI := Lib.hid hi64
  clear hi64
  go_wp2
  refine wp_load_mid 94 (.tmp 3) rfl (w.heap.size + 1) 0 rfl (B.map B8) _ R1.out Tryd.underlying94 rfl HI.out ?_
  clear R1
  generalize (((w.alloc (.cells s.arr 83)).alloc (.cells (B.map B8).toArray 94)).alloc (.cells #[.int .u32 0, .int .u32 0, .int .u32 0, .int .u32 0, .int .u32 0, .int .u32 0, .int .u32 0, .int .u32 0] 83)) = w1 at X ⊢
  obtain ⟨ws, hws⟩ : ∃ ws, ws = wall B := ⟨_, rfl⟩
  have hsch := fun W => schedule_calls B W hB
  rw [← hws] at hsch
  have HS := Lib.hid hsch
  have HW := Lib.hid hws
  clear hsch hws
  obtain ⟨ks, hks⟩ : ∃ ks, ks = kk := ⟨_, rfl⟩
  have hwl : ws.length = 64 := by rw [HW.out]; exact wall_len B
  have hkl : ks.length = 64 := by rw [hks]; exact kk_len
  obtain ⟨b0, b2, bb, hsz⟩ := X.out
  have F0 : ∀ w', Below w1.heap.size w1 w' → Blk w' w.heap.size s.vals 83 := fun w' hb => b0.below hb b0.lt
  have F2 : ∀ w', Below w1.heap.size w1 w' → Blk w' (w.heap.size + 1 + 1) [.int .u32 0, .int .u32 0, .int .u32 0, .int .u32 0, .int .u32 0, .int .u32 0, .int .u32 0, .int .u32 0] 83 := fun w' hb => b2.below hb b2.lt
  have F3 : ∀ w', Below w1.heap.size w1 w' → Below w.heap.size w w' := fun w' hb => bb.trans (hb.mono (by omega))
  have F4 : ∀ w', Below w1.heap.size w1 w' → w'.rangeAt 1 0 (ks.map W32) := fun w' hb => by rw [hks]; exact (HT.out.all (F3 w' hb)).1
  have F5 : ∀ w', Below w1.heap.size w1 w' → w.heap.size + 3 ≤ w'.heap.size := fun w' hb => by have := hb.size; omega
  have F6 : 1 < w.heap.size := HT.out.lt.1
  have hi1 : (Tryd.prog.info? 92).map (·.size) = some (ws.map W32).length := by rw [List.length_map, hwl]; exact i64
  have hi2 : (Tryd.prog.info? 92).map (·.size) = some (ks.map W32).length := by rw [List.length_map, hkl]; exact i64
  have hi3 : (Tryd.prog.info? 83).map (·.size) = some s.vals.length := i8
  have HK := Lib.hid hks
  have HWL := Lib.hid hwl
  have HKL := Lib.hid hkl
  have G0 := Lib.hid F0
  have G2 := Lib.hid F2
  have G3 := Lib.hid F3
  have G4 := Lib.hid F4
  have G5 := Lib.hid F5
  have I1 := Lib.hid hi1
  have I2 := Lib.hid hi2
  have I3 := Lib.hid hi3
  have hap : Hid (∀ w' : World, w.heap.size + 3 ≤ w'.heap.size → w.heap.size ≠ w'.heap.size) := Lib.hid (by intro w' h; omega)
  clear hks hwl hkl b0 b2 bb hsz F0 F2 F3 F4 F5 hi1 hi2 hi3 X
  go_wp2_with (first
    | (go_at_call 52; refine (HS.out _).mono ?_; rintro e' w' ⟨rfl, hbel⟩)
    | (refine at_store 92 (.tmp 5) (.tmp 11) ?_; refine wpList_store_blk rfl 92 (.tmp 5) (.tmp 11) rfl w'.heap.size _ (ws.map W32) _ rfl rfl (Blk.new w' _ _) (by simp [HWL.out]) I1.out (w32_one _) ?_; intro w2 hb5 ho2)
    | (refine at_load 83 (.tmp 2) ?_; refine wpList_load_mid rfl 83 (.tmp 2) rfl w.heap.size 0 rfl s.vals _ (ho2.blk ((G0.out w' hbel).alloc _) (hap.out w' (G5.out w' hbel))).range Tryd.underlying83 rfl I3.out ?_; (have Q5 := Lib.hid (Blk.alloc hb5 (.cells #[.int .u32 0, .int .u32 0, .int .u32 0, .int .u32 0, .int .u32 0, .int .u32 0, .int .u32 0, .int .u32 0] 83)); have Q2 := Lib.hid (Only.below ho2 (B := w'.heap.size) (Nat.le_refl _)); have Q3 := Lib.hid ho2.size; clear hb5 ho2))
    | (refine at_store 83 (.tmp 6) (.tmp 12) ?_; refine wpList_store_blk rfl 83 (.tmp 6) (.tmp 12) rfl w2.heap.size _ s.vals _ rfl rfl (Blk.new w2 _ _) rfl I3.out (vals_one s) ?_; intro w3 hb6 ho3)
    | (refine at_load 92 (.global 1) ?_
       have z2 : w2.heap.size = w'.heap.size + 1 := by rw [Q3.out]; simp
       have hB3 : Below w'.heap.size w' w3 := ((((Below.refl _ w').alloc (Nat.le_refl _) _).trans Q2.out).alloc (by omega) _).trans (ho3.below (by omega))
       refine wpList_load_mid rfl 92 (.global 1) rfl 1 0 rfl (ks.map W32) _ (range_below (G4.out w' hbel) hB3 (by have := G5.out w' hbel; omega)) Tryd.underlying92 rfl I2.out ?_
       have Q6 := Lib.hid hB3
       have Q7 := Lib.hid hb6
       have Q8 := Lib.hid (ho3.blk Q5.out (by omega))
       have Q9 := Lib.hid z2
       clear z2 hB3 hb6 ho3))
  go_loopw [14] (fun i wr => ∃ t : Nat, t ≤ 64 ∧ i = .int .i64 t ∧ Blk wr w'.heap.size (ws.map W32) 92 ∧ Blk wr w2.heap.size (rounds s ws t).vals 83 ∧ Blk wr w.heap.size s.vals 83 ∧ Blk wr (w.heap.size + 1 + 1) [.int .u32 0, .int .u32 0, .int .u32 0, .int .u32 0, .int .u32 0, .int .u32 0, .int .u32 0, .int .u32 0] 83 ∧ Below w.heap.size w wr) (fun i _ => 64 - (intOf i).toNat)
  case atStart =>
    have h5 := G5.out w' hbel
    exact ⟨0, by omega, rfl, Q8.out, Q7.out, (G0.out w' hbel).below Q6.out (by omega), (G2.out w' hbel).below Q6.out (by omega), (G3.out w' hbel).trans (Q6.out.mono (by omega))⟩
  case round =>
    obtain ⟨t, ht, rfl, hb5, hb6, hb2, hb4, hbl⟩ := hrel
    have h5 := G5.out w' hbel
    by_cases hlt : t < 64
    · obtain ⟨r, hr⟩ : ∃ r, r = rounds s ws t := ⟨_, rfl⟩
      obtain ⟨kt, hkt⟩ : ∃ x, x = ks.getD t 0 := ⟨_, rfl⟩
      obtain ⟨wt, hwt⟩ : ∃ x, x = ws.getD t 0 := ⟨_, rfl⟩
      rw [← hr] at hb6
      have hix := fun W => run_idx (P := Tryd.prog) 92 82 64 Tryd.underlying92 .u32 Tryd.underlying82 (by kernel_rfl) (ks.map W32) t (.int .u32 (kt : Int)) hlt (by rw [hkt]; exact map_at ks t (by rw [HKL.out]; exact hlt)) W
      have hcw := hb5.cell t
      rw [map_at ws t (by rw [HWL.out]; exact hlt), ← hwt] at hcw
      have hrok : r.ok := hr ▸ rounds_ok s ws t hs
      obtain ⟨kw, hkw⟩ : ∃ x, x = (kt + wt) % 4294967296 := ⟨_, rfl⟩
      have hv : IntKind.u32.wrap ((kt : Int) + (wt : Int)) = (kw : Int) := by rw [IntKind.wrap_u32, hkw]; omega
      obtain ⟨a, b, c, d, e, f, g, h⟩ := r
      have c0 : wr.cell? ⟨w2.heap.size, 0, none⟩ = some (.int .u32 (a : Int)) := hb6.cell 0
      have c1 : wr.cell? ⟨w2.heap.size, 1, none⟩ = some (.int .u32 (b : Int)) := hb6.cell 1
      have c2 : wr.cell? ⟨w2.heap.size, 2, none⟩ = some (.int .u32 (c : Int)) := hb6.cell 2
      have c3 : wr.cell? ⟨w2.heap.size, 3, none⟩ = some (.int .u32 (d : Int)) := hb6.cell 3
      have c4 : wr.cell? ⟨w2.heap.size, 4, none⟩ = some (.int .u32 (e : Int)) := hb6.cell 4
      have c5 : wr.cell? ⟨w2.heap.size, 5, none⟩ = some (.int .u32 (f : Int)) := hb6.cell 5
      have c6 : wr.cell? ⟨w2.heap.size, 6, none⟩ = some (.int .u32 (g : Int)) := hb6.cell 6
      have c7 : wr.cell? ⟨w2.heap.size, 7, none⟩ = some (.int .u32 (h : Int)) := hb6.cell 7
      have D := Lib.hid (And.intro hr (And.intro hkt (And.intro hwt hkw)))
      have D5 := Lib.hid hb5
      have D6 := Lib.hid hb6
      have D2 := Lib.hid hb2
      have D4 := Lib.hid hb4
      have bt : (t : Int) < 64 := by omega
      obtain ⟨V, hV⟩ : ∃ V, V = (St.round ⟨a, b, c, d, e, f, g, h⟩ kw).vals := ⟨_, rfl⟩
      obtain ⟨V0, hV0⟩ : ∃ V, V = (St.vals ⟨a, b, c, d, e, f, g, h⟩) := ⟨_, rfl⟩
      have hVl : V.length = 8 := by rw [hV]; exact vals_len _
      have hV0l : V0.length = 8 := by rw [hV0]; exact vals_len _
      have hV1 : ∀ v ∈ V, v.oneCell' = true := by rw [hV]; exact vals_one _
      have hrc : ∀ W, Calls Tryd.prog 53 #[.agg #[.int .u32 (a : Int), .int .u32 (b : Int), .int .u32 (c : Int), .int .u32 (d : Int), .int .u32 (e : Int), .int .u32 (f : Int), .int .u32 (g : Int), .int .u32 (h : Int)], .int .u32 (kw : Int)] W (Ret W (.agg V.toArray)) := by
        intro W
        have := round_calls ⟨a, b, c, d, e, f, g, h⟩ kw W hrok
        rw [St.arr_eq (St.round _ _), ← hV] at this
        exact this
      rw [← hV0] at hb6
      have HREL : Hid (∀ w4 : World, Below wr.drew.heap.size wr.drew w4 → ∃ t_1 : Nat, t_1 ≤ 64 ∧ Value.int .i64 ((t : Int) + 1) = .int .i64 (t_1 : Int) ∧ Blk (w4.setCells w2.heap.size 0 V) w'.heap.size (ws.map W32) 92 ∧ Blk (w4.setCells w2.heap.size 0 V) w2.heap.size (rounds s ws t_1).vals 83 ∧ Blk (w4.setCells w2.heap.size 0 V) w.heap.size s.vals 83 ∧ Blk (w4.setCells w2.heap.size 0 V) (w.heap.size + 1 + 1) [.int .u32 0, .int .u32 0, .int .u32 0, .int .u32 0, .int .u32 0, .int .u32 0, .int .u32 0, .int .u32 0] 83 ∧ Below w.heap.size w (w4.setCells w2.heap.size 0 V)) := Lib.hid (by
        intro w4 hbel4
        have hbw : Below wr.heap.size wr w4 := ⟨hbel4.os, hbel4.tape, hbel4.output, hbel4.size, hbel4.block⟩
        have h4 := hb6.below hbw hb6.lt
        have ho := Only.setCells (g := w2.heap.size) V w4 w4 0 (Only.refl _ _)
        have hn := Blk.setCells V w4 _ 0 h4 (by omega)
        rw [over_all _ _ (by omega)] at hn
        have hs4 := hbw.size
        have hl6 := hb6.lt
        have hz := Q9.out
        refine ⟨t + 1, by omega, by go_num, ho.blk (hb5.below hbw hb5.lt) (by omega), ?_, ho.blk (hb2.below hbw hb2.lt) (by omega), ho.blk (hb4.below hbw hb4.lt) (by omega), ((hbl.trans (hbw.mono (by have := hbl.size; omega))).trans (ho.below (by omega)))⟩
        rw [rounds, ← hr, ← HK.out, ← hkt, ← hwt, ← hkw, ← hV]
        exact hn)
      have hstc : Hid (∀ w4 : World, Below wr.drew.heap.size wr.drew w4 → (storeCells ⟨w2.heap.size, 0, none⟩ V).run Tryd.prog w4 = .ok () (w4.setCells w2.heap.size 0 V)) := Lib.hid fun w4 hb => run_stc (Blk.below (w := wr.drew) hb6 hb hb6.lt) V (by omega) hV1
      have HRC := Lib.hid hrc
      have hV8 := Lib.hid hVl
      clear hr hkt hwt hkw hb5 hb6 hb2 hb4 D D5 D6 D2 D4 hV hV0 hV1 hV0l hrc
      go_wp2
      go_region_with (go_at_call 53; refine (HRC.out _).mono ?_; rintro e' w4 ⟨rfl, hbel4⟩; have hst := hstc.out w4 hbel4)
      all_goals clear hst
      all_goals go_wp2
      all_goals go_roundw
      all_goals first | exact HREL.out w4 hbel4 | (simp [intOf]; omega)
    · have e : t = 64 := by omega
      subst e
      obtain ⟨r, hr⟩ : ∃ r, r = rounds s ws 64 := ⟨_, rfl⟩
      rw [← hr] at hb6
      have HR := Lib.hid hr
      have hz := Q9.out
      clear hr
      go_wp2
      go_loopw [26] (fun i wr => ∃ k : Nat, k ≤ 8 ∧ i = .int .i64 k ∧ Blk wr w2.heap.size r.vals 83 ∧ Blk wr w.heap.size ((addp s.list r.list k).map W32) 83 ∧ Blk wr (w.heap.size + 1 + 1) [.int .u32 0, .int .u32 0, .int .u32 0, .int .u32 0, .int .u32 0, .int .u32 0, .int .u32 0, .int .u32 0] 83 ∧ Below w.heap.size w wr) (fun i _ => 8 - (intOf i).toNat)
      case atStart => exact ⟨0, by omega, rfl, hb6, by rw [addp_zero]; exact hb2, hb4, hbl⟩
      case round =>
        obtain ⟨k, hk, rfl, hb6, hb2, hb4, hbl⟩ := hrel
        by_cases hlt : k < 8
        · obtain ⟨x, hx⟩ : ∃ x, x = s.list.getD k 0 := ⟨_, rfl⟩
          obtain ⟨y, hy⟩ : ∃ y, y = r.list.getD k 0 := ⟨_, rfl⟩
          have cx := hb2.cell k
          rw [addp_at s r k hlt, ← hx] at cx
          have cy := hb6.cell k
          rw [show r.vals = r.list.map W32 from rfl, map_at r.list k hlt, ← hy] at cy
          have fx := hb2.free k
          have bk : (k : Int) < 8 := by omega
          have HREL : Hid (∀ n : Nat, ∃ k_1 : Nat, k_1 ≤ 8 ∧ Value.int .i64 ((k : Int) + 1) = .int .i64 (k_1 : Int) ∧ Blk ((wr.drewN n).setCell ⟨w.heap.size, k, none⟩ (.int .u32 (((x : Int) + (y : Int)) % 4294967296))) w2.heap.size r.vals 83 ∧ Blk ((wr.drewN n).setCell ⟨w.heap.size, k, none⟩ (.int .u32 (((x : Int) + (y : Int)) % 4294967296))) w.heap.size ((addp s.list r.list k_1).map W32) 83 ∧ Blk ((wr.drewN n).setCell ⟨w.heap.size, k, none⟩ (.int .u32 (((x : Int) + (y : Int)) % 4294967296))) (w.heap.size + 1 + 1) [.int .u32 0, .int .u32 0, .int .u32 0, .int .u32 0, .int .u32 0, .int .u32 0, .int .u32 0, .int .u32 0] 83 ∧ Below w.heap.size w ((wr.drewN n).setCell ⟨w.heap.size, k, none⟩ (.int .u32 (((x : Int) + (y : Int)) % 4294967296)))) := Lib.hid (by
            intro n
            have h1 := (hb2.drewN n).set k (W32 ((x + y) % 4294967296))
            rw [hx, hy, addp_set s r k hlt] at h1
            have e : Value.int .u32 (((x : Int) + (y : Int)) % 4294967296) = W32 ((s.list.getD k 0 + r.list.getD k 0) % 4294967296) := by rw [hx, hy, W32]; congr 1
            rw [e]
            exact ⟨k + 1, by omega, by go_num, (hb6.drewN n).set_other _ _ (by show w2.heap.size ≠ w.heap.size; omega), h1, (hb4.drewN n).set_other _ _ (by show w.heap.size + 1 + 1 ≠ w.heap.size; omega), (below_drewN hbl n).setCell (Nat.le_refl _) _⟩)
          clear hb6 hb2 hb4 hx hy hz h5
          go_wp2
          go_region
          all_goals go_wp2
          all_goals go_roundw
          all_goals first | exact HREL.out 1 | (simp [intOf]; omega)
        · have e : k = 8 := by omega
          subst e
          have hfin : (addp s.list r.list 8).map W32 = (comp s B).vals := by rw [addp_all, HR.out, HW.out]; rfl
          rw [hfin] at hb2
          have J2 := Lib.hid hb2
          have J4 := Lib.hid hb4
          have hl8 : (comp s B).vals.length = 8 := vals_len _
          obtain ⟨V, hV⟩ : ∃ V, V = (comp s B).vals := ⟨_, rfl⟩
          have hV1 : ∀ v ∈ V, v.oneCell' = true := hV ▸ vals_one _
          rw [← hV] at J2 hl8
          have J5 := Lib.hid hV
          have i8' : (Tryd.prog.info? 83).map (·.size) = some V.length := by rw [hl8]; exact i8
          have J6 := Lib.hid i8'
          have J7 := Lib.hid hl8
          clear hV hfin hb2 hb4 hb6 i8' hl8
          go_wp2_with (first
            | (refine at_load 83 (.tmp 2) ?_; refine wpList_load_mid rfl 83 (.tmp 2) rfl w.heap.size 0 rfl V _ J2.out.range Tryd.underlying83 rfl J6.out ?_)
            | (refine at_store 83 (.tmp 4) (.tmp 38) ?_; refine wpList_store_blk rfl 83 (.tmp 4) (.tmp 38) rfl (w.heap.size + 1 + 1) _ V _ rfl rfl J4.out (by rw [J7.out]; rfl) J6.out hV1 ?_; intro w9 hb9 ho9))
          refine bodyPost_ret (v := .agg V.toArray) ?_ rfl ⟨by rw [J5.out, ← St.arr_eq], hbl.trans (ho9.below (by omega))⟩
          exact results_cell_row Tryd.results49 _ _ (w.heap.size + 1 + 1) 83 _ (0, 0) _ (by rfl) hb9 Tryd.underlying83 rfl (by rw [List.size_toArray]; exact J6.out)
end Go.Proofs.YthkkllcpogagiaaDoor

/- Words for a Hasher in memory; the contracts of sha2.New and of Hasher.Len. -/
namespace Go.Proofs.YthkkllcpogagiaaDoor
open Go.RowKit
set_option linter.unusedVariables false

/-- The cells of a Hasher. -/
def hcells (s : St) (B : List UInt8) (n : Nat) : List Value := s.vals ++ B.map B8 ++ [.int .i64 (n : Int)]
/-- The Hasher in block b has been given the bytes l. -/
def Hs (w : World) (b : Nat) (l : List UInt8) : Prop :=
  ∃ B : List UInt8, B.length = 64 ∧ B.take (l.length % 64) = l.drop (64 * (l.length / 64)) ∧ Blk w b (hcells (chain h0 l (l.length / 64)) B l.length) 96
set_option maxRecDepth 100000 in
theorem hcells_len (s : St) (B : List UInt8) (n : Nat) (hB : B.length = 64) : (hcells s B n).length = 73 := by simp [hcells, St.vals, St.list, hB]
set_option maxRecDepth 100000 in
theorem hcells_total (s : St) (B : List UInt8) (n : Nat) (hB : B.length = 64) : (hcells s B n)[72]? = some (.int .i64 (n : Int)) := by
  unfold hcells
  rw [List.getElem?_append_right (by simp [St.vals, St.list, hB])]
  simp [St.vals, St.list, hB]
set_option maxRecDepth 100000 in
theorem Hs.below {B0 : Nat} {w w' : World} {b : Nat} {l : List UInt8} (h : Hs w b l) (hb : Below B0 w w') (hlt : b < B0) : Hs w' b l := by
  obtain ⟨B, h1, h2, h3⟩ := h
  exact ⟨B, h1, h2, h3.below hb hlt⟩
set_option maxRecDepth 100000 in
theorem Hs.lt {w : World} {b : Nat} {l : List UInt8} (h : Hs w b l) : b < w.heap.size := by
  obtain ⟨B, h1, h2, h3⟩ := h
  exact h3.lt

/-- The cells of a Hasher that is all zero. -/
def zh : Array Value := (List.replicate 8 (Value.int .u32 0) ++ List.replicate 64 (Value.int .u8 0) ++ [Value.int .i64 0]).toArray
set_option maxRecDepth 100000 in
theorem infoH : (Tryd.prog.info? 96).map (fun i => (i.zero, i.size)) = some (some (.agg zh), 73) := by kernel_rfl
set_option maxRecDepth 100000 in
theorem iH : (Tryd.prog.info? 96).map (·.size) = some 73 := by kernel_rfl

set_option maxRecDepth 100000 in
set_option maxHeartbeats 1000000 in
theorem new_calls (w : World) (hT : Tab w) :
    Calls Tryd.prog 44 #[] w fun e w' => ∃ b, e = .returned (.pointer (some ⟨b, 0, none⟩)) ∧ w.heap.size ≤ b ∧ Hs w' b [] ∧ Below w.heap.size w w' := by
  have c0 : w.cell? ⟨0, 0, none⟩ = some (.int .u32 1779033703) := hT.2 0 _ rfl
  have c1 : w.cell? ⟨0, 1, none⟩ = some (.int .u32 3144134277) := hT.2 1 _ rfl
  have c2 : w.cell? ⟨0, 2, none⟩ = some (.int .u32 1013904242) := hT.2 2 _ rfl
  have c3 : w.cell? ⟨0, 3, none⟩ = some (.int .u32 2773480762) := hT.2 3 _ rfl
  have c4 : w.cell? ⟨0, 4, none⟩ = some (.int .u32 1359893119) := hT.2 4 _ rfl
  have c5 : w.cell? ⟨0, 5, none⟩ = some (.int .u32 2600822924) := hT.2 5 _ rfl
  have c6 : w.cell? ⟨0, 6, none⟩ = some (.int .u32 528734635) := hT.2 6 _ rfl
  have c7 : w.cell? ⟨0, 7, none⟩ = some (.int .u32 1541459225) := hT.2 7 _ rfl
  have hz0 := (zero_of_info infoH).1
  obtain ⟨z, hz⟩ : ∃ z, z = zh := ⟨_, rfl⟩
  rw [← hz] at hz0
  have hzs : z.size = 73 := by rw [hz]; rfl
  have HZ := Lib.hid hz
  clear hz
  go_enter Tryd.func44, Tryd.ntmps44
  go_wp2
  go_ret
  refine ⟨w.heap.size, rfl, Nat.le_refl _, ⟨List.replicate 64 0, by simp, rfl, ?_⟩, (Below.refl _ w).alloc (Nat.le_refl _) _⟩
  rw [HZ.out]
  exact Blk.new w _ _

end Go.Proofs.YthkkllcpogagiaaDoor
