/- Merged texts: GcsL GcsZ GcsJ. -/
import Derived.Test.YtplnmjdafchjbaaMbj
import Derived.Test.YtplnmjdafchjbaaMbi
import Derived.Test.YtplnmjdafchjbaaMbg
import Derived.Test.YtplnmjdafchjbaaMai
import Derived.Test.YtplnmjdafchjbaaMay
import Derived.Test.YtplnmjdafchjbaaMaw
import Derived.Test.YtplnmjdafchjbaaMaz
import Derived.Test.YtplnmjdafchjbaaMam
import Derived.Deep.RegionHeld3
import Derived.Deep.CutRange
import Derived.Deep.DeepCutAuto
/- Package gcs: Build. -/
namespace Go.Proofs.Ytplnmjdafchjbaa
open Go.RowKit
set_option linter.unusedVariables false
set_option linter.unusedSimpArgs false

set_option maxRecDepth 100000 in
theorem OwnR.open_ {w : World} {b n c : Nat} {e : TypeId} {A : Option Addr} {V : List Value} (h : OwnR w b e A n c V) (hn : 0 < n) :
    ∃ g, A = some ⟨g, 0, none⟩ ∧ b ≤ g ∧ g < w.heap.size ∧ (∀ j, w.frozen? ⟨g, j, none⟩ = false) ∧ (∀ j u, V[j]? = some u → w.cell? ⟨g, j, none⟩ = some u) ∧
      ∀ i v, i < n → OwnR (w.setCell ⟨g, i, none⟩ v) b e A n c (V.set i v) := by
  have hrd := h.rd
  obtain ⟨h1, h2, h3⟩ := h
  rcases h3 with ⟨_, h0⟩ | ⟨g, cap, cur, hv, hg, hh, hnc, hcm, hcs, hct⟩
  · omega
  · injection hv with e1 e2 e3
    have hb : Blk w g cur.toList e := by
      unfold Blk
      rw [hh]
    refine ⟨g, e1, hg, hb.lt, fun j => hb.free j, fun j u hu => ?_, fun i v hi => ⟨by rw [List.length_set]; exact h1, by rw [List.length_set]; exact h2, .inr ⟨g, cap, (cur.toList.set i v).toArray, ?_, hg, hb.set i v, hnc, hcm, by simp [hcs], ?_⟩⟩⟩
    · obtain ⟨b', off, e4, _, hc⟩ := hrd.2 hn
      rw [e1] at e4
      injection e4 with e4
      injection e4 with e5 e6
      subst e5
      have := hc j u hu
      rw [← e6, Nat.zero_add] at this
      exact this
    · rw [e1, e3]
    · show (cur.toList.set i v).take (n * 1) = V.set i v
      rw [List.take_set, hct]
/-- The first i numbers are below the bound. -/
def mixN (N H : List Nat) (i : Nat) : List Nat := N.take i ++ H.drop i
set_option maxRecDepth 100000 in
theorem mixN_zero (N H : List Nat) : mixN N H 0 = H := by simp [mixN]
set_option maxRecDepth 100000 in
theorem mixN_all (N H : List Nat) (h : N.length = H.length) : mixN N H N.length = N := by
  unfold mixN
  rw [List.take_of_length_le (Nat.le_refl _), List.drop_of_length_le (by omega), List.append_nil]
set_option maxRecDepth 100000 in
theorem mixN_len (N H : List Nat) (i : Nat) (h : N.length = H.length) (hi : i ≤ H.length) : (mixN N H i).length = H.length := by
  unfold mixN
  rw [List.length_append, List.length_take, List.length_drop]
  omega
set_option maxRecDepth 100000 in
theorem mixN_at (N H : List Nat) (i : Nat) (h : N.length = H.length) (hi : i < H.length) : (mixN N H i)[i]? = some H[i] := by
  unfold mixN
  rw [List.getElem?_append_right (by rw [List.length_take]; omega), List.length_take, Nat.min_eq_left (by omega), Nat.sub_self, List.getElem?_drop, Nat.add_zero, List.getElem?_eq_getElem hi]
set_option maxRecDepth 100000 in
theorem mixN_set (N H : List Nat) (i : Nat) (h : N.length = H.length) (hi : i < H.length) : (mixN N H i).set i (N[i]'(by omega)) = mixN N H (i + 1) := by
  unfold mixN
  rw [List.set_append_right _ _ (by rw [List.length_take]; omega), List.length_take, Nat.min_eq_left (by omega), Nat.sub_self, List.drop_eq_getElem_cons hi, List.set_cons_zero, List.take_succ_eq_append_getElem (show i < N.length by omega), List.append_assoc]
  rfl
set_option maxRecDepth 100000 in
set_option maxHeartbeats 3000000 in
theorem build_calls (w : World) (k l : Nat) (A : Option Addr) (n c : Nat) (L : List (List UInt8)) (hk : k < 2 ^ 64) (hl : l < 2 ^ 64) (hr : RdM w A n L) (hn : n ≤ 2000) (hL : ∀ t ∈ L, t.length ≤ 1000) (hO : (once L).length ≤ 1000) :
    Calls Try.prog 11 #[.agg #[.int .u64 (k : Int), .int .u64 (l : Int)], .slice A n c] w fun e w' => ∃ A' n' c', e = .returned (.tuple #[.slice A' n' c', .int .i64 0]) ∧ RdF w' (fun i => i < w.heap.size) A' n' (filt k l L) ∧ n' ≤ c' ∧ c' ≤ maxLen ∧ Below w.heap.size w w' := by
  have hk0 : Blk (w.alloc (.cells #[.int .u64 (k : Int), .int .u64 (l : Int)] 23)) w.heap.size [.int .u64 (k : Int), .int .u64 (l : Int)] 23 := Blk.new w _ _
  have HB0 : Hid (Below w.heap.size w (w.alloc (.cells #[.int .u64 (k : Int), .int .u64 (l : Int)] 23))) := Lib.hid (below_al (Below.refl _ _) _)
  have CH := hashes_calls (w.alloc (.cells #[.int .u64 (k : Int), .int .u64 (l : Int)] 23)) k l A n c L hk hl (hr.below HB0.out) hn hL
  obtain ⟨m, hm⟩ : ∃ z, z = (once L).length := ⟨_, rfl⟩
  obtain ⟨F, hF⟩ : ∃ z, z = m * 784931 := ⟨_, rfl⟩
  obtain ⟨H, hH⟩ : ∃ z, z = (once L).map (sipH k l) := ⟨_, rfl⟩
  obtain ⟨N, hN⟩ : ∃ z, z = (once L).map (numb k l m) := ⟨_, rfl⟩
  obtain ⟨G, hG⟩ : ∃ z, z = gnums k l L := ⟨_, rfl⟩
  obtain ⟨SB, hSB⟩ : ∃ z, z = stB (stp 19 0 G) := ⟨_, rfl⟩
  have HFL : Hid (filt k l L = cnt m ++ SB) := Lib.hid (by unfold filt; rw [hSB, hG, hm])
  have HSL : Hid (SB.length ≤ 100000) := Lib.hid (by
    have h1 := stB_len 19 G 0
    have h2 := gnums_stL k l L hk hl hO
    rw [hSB]
    rw [← hG] at h2
    omega)
  have HGS : Hid (G = sortN N) := Lib.hid (by rw [hG, hN, hm]; rfl)
  have hst : (stp 19 0 G).2 = 0 := by
    rw [hG]
    exact (vgo_back ((once L).length * 784931) (by omega) (gnums k l L) 0 [] (gnums_lt k l L hk hl) (nums_asc k l L)).1
  have CS : Hid (∀ A c W, RdN W A m G → Calls Try.prog 23 #[.int .i64 19, .slice A m c] W fun e w' => ∃ A' n' c', e = .returned (.tuple #[.slice A' n' c', .int .i64 0]) ∧ Rd w' A' n' SB ∧ n' ≤ c' ∧ c' ≤ maxLen ∧ Below W.heap.size W w') := Lib.hid fun A c W h => by
    have h2 := rsteps2_calls bitWO W A m c G 19 h (by omega) (by rw [hG]; exact gnums_stL k l L hk hl hO)
    rw [hst, ← hSB] at h2
    exact h2
  have CF : Hid (∀ W : World, Calls Try.prog 20 #[.int .i64 (m : Int)] W fun e w' => e = .returned (.int .u64 (F : Int)) ∧ W = w') := Lib.hid fun W => (bound_calls m F W (by omega) hF).mono fun _ _ h => ⟨h.1, h.2.symm⟩
  have HNH : Hid (N.length = m ∧ H.length = m) := Lib.hid ⟨by rw [hN, List.length_map, hm], by rw [hH, List.length_map, hm]⟩
  have H64 : Hid (∀ x ∈ N, x < 18446744073709551616) := Lib.hid fun x hx => by
    rw [hN] at hx
    obtain ⟨t, _, rfl⟩ := List.mem_map.1 hx
    exact numb_64 k l m t hk hl (by omega)
  have CR : Hid (∀ (W : World) (i : Nat) (h1 : i < H.length) (h2 : i < N.length), Calls Try.prog 21 #[.int .u64 (H[i] : Int), .int .u64 (F : Int)] W fun e w' => e = .returned (.int .u64 (N[i] : Int)) ∧ W = w') := Lib.hid fun W i h1 h2 => by
    have hi : i < (once L).length := by rw [← hm, ← HNH.out.2]; exact h1
    have e1 : H[i] = sipH k l (once L)[i] := by simp only [hH, List.getElem_map]
    have e2 : N[i] = hi64 (sipH k l (once L)[i]) F := by
      simp only [hN, List.getElem_map]
      rw [hF]
      rfl
    rw [e1, e2]
    exact range_calls _ F W (sipH_lt k l _ hk hl) (by omega)
  rw [← hm] at CH hO
  rw [← hH] at CH
  have CH2 : Hid (Calls Try.prog 19 #[.agg #[.int .u64 (k : Int), .int .u64 (l : Int)], .slice A n c] (w.alloc (.cells #[.int .u64 (k : Int), .int .u64 (l : Int)] 23)) fun e w' => ∃ A' c', e = .returned (.tuple #[.slice A' m c', .int .i64 0]) ∧ OwnR w' w.heap.size 22 A' m c' (H.map VN) ∧ Below w.heap.size w w') := Lib.hid (CH.mono fun e w' ⟨hB1, h1⟩ => by
    rcases h1 with ⟨_, A1, c1, h2, h3⟩ | ⟨h1, _⟩
    · exact ⟨A1, c1, h2, h3.low HB0.out.size, below_more HB0.out hB1⟩
    · omega)
  have u9 : IntKind.u64.wrap (m : Int) = (m : Int) := by rw [IntKind.wrap_u64]; omega
  clear CH hr hL hm hF hH hN hG hSB hst
  go_enter Try.func11, Try.ntmps11
  go_upto_region 2 with (first
    | ((with_reducible refine at_load 23 (.tmp 2) ?_); refine wpList_load_mid rfl 23 (.tmp 2) rfl (w.heap.size) (0) (by first | rfl | simp [Act.eval]) [.int .u64 (k : Int), .int .u64 (l : Int)] _ (Blk.range hk0) Try.underlying23 rfl (by kernel_rfl) ?_)
    | (go_at_call 19; refine CH2.out.mono ?_; rintro e' w1 ⟨A1, c1, rfl, ho1, hB1⟩; have HO1 := Lib.hid ho1; have HB1 := Lib.hid hB1; clear ho1 hB1 hk0))
  by_cases hm0 : m = 0
  · have HR5 : Hid (RdN w1 A1 m G) := Lib.hid ⟨by rw [HGS.out, (sort_perm N).length_eq]; exact HNH.out.1, fun h => absurd h (by omega)⟩
    have HB5 := HB1
    have D : Hid (∀ W, Calls Try.prog 22 #[.slice A1 m c1] W fun e w' => e = .returned (.tuple #[]) ∧ W = w') := Lib.hid fun W => by
      rw [hm0]
      exact (sort0_calls W A1 c1).mono fun _ _ h => ⟨h.1, h.2.symm⟩
    have hz : ¬ (0 : Int) < (m : Int) := by omega
    clear hm0 HO1 HB1
    go_wp2_with (first
      | (go_at_call 20; refine (CF.out _).mono ?_; rintro e' w2 ⟨rfl, rfl⟩))
    go_loopw [27] (fun iv wr => iv = .int .i64 0 ∧ wr = w1) (fun _ _ => 0)
    case atStart => exact ⟨by first | rfl | go_num, rfl⟩
    case round =>
      obtain ⟨rfl, hwr⟩ := hrel
      subst hwr
      go_upto_region 11 with (first
        | (go_at_call 22; refine (D.out _).mono ?_; rintro e' w5 ⟨rfl, rfl⟩))
      go_upto_region 14 with (first
        | (go_at_call 23; refine (CS.out _ _ _ HR5.out).mono ?_; rintro e' w6 ⟨A6, n6, c6, rfl, hr6, hn6, hc6, hB6⟩; have HR6 := Lib.hid (And.intro hr6 hn6); have HB6 : Hid (Below w.heap.size w w6) := Lib.hid (below_more HB5.out hB6); clear hr6 hn6 hc6 hB6))
      obtain ⟨b6, hb6⟩ : ∃ z, z = w6.heap.size := ⟨_, rfl⟩
      have HBB : Hid (b6 = w6.heap.size ∧ w.heap.size ≤ b6) := Lib.hid ⟨hb6, by rw [hb6]; exact HB6.out.size⟩
      clear CS HR5 HB5 hb6
      go_upto_region 15 with (first
        | (go_at_call 24; refine (wnew_calls _).mono ?_; rintro e' w7 ⟨p, rfl, hp, hW7, hB7⟩))
      have hS7 : ∀ i, WS p none i → b6 ≤ i := ws_new (by rw [HBB.out.1, hp]; exact Nat.le_refl _)
      have hs7 : b6 ≤ w7.heap.size := by rw [HBB.out.1]; exact hB7.size
      have HB7 := Lib.hid (below_more HB6.out hB7)
      have HR7 : Hid (RdF w7 (fun i => b6 ≤ i) A6 n6 SB) := Lib.hid (RdF.old HR6.out.1 hB7 (fun i h => by rw [← HBB.out.1]; exact h))
      have D8 := Lib.hid (wvar_calls w7 p none 0 [] hW7 m (by simp))
      clear hp hW7 hB7
      go_upto_region 16 with (first
        | (go_at_call 25; refine D8.out.mono ?_; rintro e' w8 ⟨rfl, A8, c8, hW8, hF8, hn8⟩))
      have hS8 : ∀ i, WS p A8 i → b6 ≤ i := ws_on hS7 hn8 hs7
      have hs8 : b6 ≤ w8.heap.size := Nat.le_trans hs7 hF8.size
      have HB8 : Hid (Below w.heap.size w w8) := Lib.hid (below_frm HB7.out hF8 (fun i hi => Nat.le_trans HBB.out.2 (hS7 i hi)))
      have HR8 : Hid (RdF w8 (fun i => b6 ≤ i) A6 n6 SB) := Lib.hid (HR7.out.frm (hF8.mono hS7))
      have hX8 : RdF w8 (WS p A8) A6 n6 SB := HR8.out.turn (Frm.refl _ _) (fun i hi => .inl (hS8 i hi))
      have hX9 := rdlf1 w8 (WS p A8) w8.heap.size rfl hW8.lt A6 n6 c6 SB hX8 27
      have hA9 : Below w8.heap.size w8 (w8.alloc (.cells #[.slice A6 n6 c6] 27)) := (Below.refl _ _).alloc (Nat.le_refl _) _
      have D9 := Lib.hid (put_calls _ p A8 c8 _ (hW8.below hA9) _ 1 1 _ hX9 (by omega) (by have := HSL.out; have h2 := more_le m; simp [cnt_len]; omega))
      have HB9 : Hid (Below w.heap.size w (w8.alloc (.cells #[.slice A6 n6 c6] 27))) := Lib.hid (below_more HB8.out hA9)
      have hs9 : b6 ≤ (w8.alloc (.cells #[.slice A6 n6 c6] 27)).heap.size := Nat.le_trans hs8 hA9.size
      clear hX8 hX9 hA9 hW8 hF8 hn8 D8
      go_upto_region 17 with (first
        | (go_at_call 26; refine D9.out.mono ?_; rintro e' w10 ⟨rfl, A10, c10, hW10, hF10, hn10⟩))
      have HB10 : Hid (Below w.heap.size w w10) := Lib.hid (below_frm HB9.out hF10 (fun i hi => Nat.le_trans HBB.out.2 (hS8 i hi)))
      have D11 := Lib.hid (wbytes_calls w10 p A10 c10 _ hW10 (by have := HSL.out; have h2 := more_le m; simp [cnt_len]; omega))
      clear hW10 hF10 hn10 D9
      go_wp2_with (first
        | (go_at_call 27; refine D11.out.mono ?_; rintro e' w11 ⟨A11, n11, c11, rfl, ho11, hB11⟩))
      go_ret2
      have hcp := own_cap ho11
      refine ⟨A11, n11, c11, rfl, ?_, hcp.1, hcp.2, below_more HB10.out hB11⟩
      have hr11 := RdF.own (S := fun i => i < w.heap.size) ho11 (fun i hi => Nat.lt_of_lt_of_le hi HB10.out.size)
      have e : [] ++ cnt m ++ [SB].flatten = filt k l L := by rw [HFL.out]; simp
      rw [e] at hr11
      exact hr11
  · obtain ⟨g, rfl, hg, hglt, hfz, hcl, hset⟩ := HO1.out.open_ (by omega)
    clear hfz hcl hset
    have hNl := HNH.out.1
    go_wp2_with (first
      | (go_at_call 20; refine (CF.out _).mono ?_; rintro e' w2 ⟨rfl, rfl⟩))
    go_loopw [27] (fun iv wr => ∃ i : Nat, iv = .int .i64 (i : Int) ∧ i ≤ m ∧ Hid (OwnR wr w.heap.size 22 (some ⟨g, 0, none⟩) m c1 ((mixN N H i).map VN)) ∧ Hid (Below w.heap.size w wr)) (fun iv _ => m - (intOf iv).toNat)
    case atStart => exact ⟨0, by first | rfl | go_num, by omega, by rw [mixN_zero]; exact HO1, HB1⟩
    case round =>
      clear HO1 HB1
      obtain ⟨i, rfl, him, HO, HB⟩ := hrel
      obtain ⟨g', hge, _, hglt2, hfz, hcl, hset⟩ := HO.out.open_ (by omega)
      injection hge with hge
      injection hge with hge _ _
      subst hge
      by_cases hlt : i < m
      · have hlt' : (i : Int) < (m : Int) := by omega
        have hiH : i < H.length := by rw [HNH.out.2]; exact hlt
        have hiN : i < N.length := by rw [HNH.out.1]; exact hlt
        have hc0 := hcl i (VN H[i]) (by rw [List.getElem?_map, mixN_at N H i (by rw [HNH.out.1, HNH.out.2]) hiH]; rfl)
        have hf0 := hfz i
        have HS2 := Lib.hid (hset i (VN N[i]) hlt)
        have HX : Hid (((mixN N H i).map VN).set i (VN N[i]) = (mixN N H (i + 1)).map VN) := Lib.hid (by rw [← mixN_set N H i (by rw [HNH.out.1, HNH.out.2]) hiH, List.map_set])
        have D := Lib.hid (CR.out wr i hiH hiN)
        obtain ⟨h, hh⟩ : ∃ z, z = H[i] := ⟨_, rfl⟩
        obtain ⟨x, hx⟩ : ∃ z, z = N[i] := ⟨_, rfl⟩
        rw [← hh] at D hc0
        rw [← hx] at D HS2 HX
        have hc1 : wr.cell? ⟨g, i, none⟩ = some (.int .u64 (h : Int)) := hc0
        have HF : Hid (Below w.heap.size w (wr.setCell ⟨g, i, none⟩ (.int .u64 (x : Int)))) := Lib.hid (below_frm HB.out ((Frm.refl (fun j => j = g) wr).setCell g i _ rfl) (fun j hj => by rw [hj]; exact hg))
        clear hh hx hc0 hiH hiN hcl hset hfz
        go_wp2_with (first
          | (go_at_call 21; refine D.out.mono ?_; rintro e' w2 ⟨rfl, rfl⟩))
        go_roundw
        case rel => exact ⟨i + 1, by go_num, by omega, Lib.hid (by rw [← HX.out]; exact HS2.out), HF⟩
        case measure => simp [intOf]; omega
      · have hlt' : ¬ (i : Int) < (m : Int) := by omega
        have e : i = m := by omega
        have hmx : mixN N H i = N := by rw [e, ← HNH.out.1]; exact mixN_all N H (by rw [HNH.out.1, HNH.out.2])
        rw [hmx] at hcl
        have D := Lib.hid (sort_calls wr g 0 m c1 N HNH.out.1 (by omega) hglt2 (fun j hj => by
          rw [Nat.zero_add]
          exact ⟨hcl j (VN N[j]) (by rw [List.getElem?_map, List.getElem?_eq_getElem hj]; rfl), hfz j⟩) H64.out)
        clear hcl hset hfz hmx e
        go_upto_region 11 with (first
          | (go_at_call 22; refine D.out.mono ?_; rintro e' w5 ⟨rfl, hr5, hB5⟩; have HR5 : Hid (RdN w5 (some ⟨g, 0, none⟩) m G) := Lib.hid (by rw [HGS.out]; exact hr5); have HB5 : Hid (Below w.heap.size w w5) := Lib.hid (HB.out.trans (hB5 _ hg)); clear hr5 hB5))
        clear D HO HB
        go_upto_region 14 with (first
          | (go_at_call 23; refine (CS.out _ _ _ HR5.out).mono ?_; rintro e' w6 ⟨A6, n6, c6, rfl, hr6, hn6, hc6, hB6⟩; have HR6 := Lib.hid (And.intro hr6 hn6); have HB6 : Hid (Below w.heap.size w w6) := Lib.hid (below_more HB5.out hB6); clear hr6 hn6 hc6 hB6))
        obtain ⟨b6, hb6⟩ : ∃ z, z = w6.heap.size := ⟨_, rfl⟩
        have HBB : Hid (b6 = w6.heap.size ∧ w.heap.size ≤ b6) := Lib.hid ⟨hb6, by rw [hb6]; exact HB6.out.size⟩
        clear CS HR5 HB5 hb6
        go_upto_region 15 with (first
          | (go_at_call 24; refine (wnew_calls _).mono ?_; rintro e' w7 ⟨p, rfl, hp, hW7, hB7⟩))
        have hS7 : ∀ i, WS p none i → b6 ≤ i := ws_new (by rw [HBB.out.1, hp]; exact Nat.le_refl _)
        have hs7 : b6 ≤ w7.heap.size := by rw [HBB.out.1]; exact hB7.size
        have HB7 := Lib.hid (below_more HB6.out hB7)
        have HR7 : Hid (RdF w7 (fun i => b6 ≤ i) A6 n6 SB) := Lib.hid (RdF.old HR6.out.1 hB7 (fun i h => by rw [← HBB.out.1]; exact h))
        have D8 := Lib.hid (wvar_calls w7 p none 0 [] hW7 m (by simp))
        clear hp hW7 hB7
        go_upto_region 16 with (first
          | (go_at_call 25; refine D8.out.mono ?_; rintro e' w8 ⟨rfl, A8, c8, hW8, hF8, hn8⟩))
        have hS8 : ∀ i, WS p A8 i → b6 ≤ i := ws_on hS7 hn8 hs7
        have hs8 : b6 ≤ w8.heap.size := Nat.le_trans hs7 hF8.size
        have HB8 : Hid (Below w.heap.size w w8) := Lib.hid (below_frm HB7.out hF8 (fun i hi => Nat.le_trans HBB.out.2 (hS7 i hi)))
        have HR8 : Hid (RdF w8 (fun i => b6 ≤ i) A6 n6 SB) := Lib.hid (HR7.out.frm (hF8.mono hS7))
        have hX8 : RdF w8 (WS p A8) A6 n6 SB := HR8.out.turn (Frm.refl _ _) (fun i hi => .inl (hS8 i hi))
        have hX9 := rdlf1 w8 (WS p A8) w8.heap.size rfl hW8.lt A6 n6 c6 SB hX8 27
        have hA9 : Below w8.heap.size w8 (w8.alloc (.cells #[.slice A6 n6 c6] 27)) := (Below.refl _ _).alloc (Nat.le_refl _) _
        have D9 := Lib.hid (put_calls _ p A8 c8 _ (hW8.below hA9) _ 1 1 _ hX9 (by omega) (by have := HSL.out; have h2 := more_le m; simp [cnt_len]; omega))
        have HB9 : Hid (Below w.heap.size w (w8.alloc (.cells #[.slice A6 n6 c6] 27))) := Lib.hid (below_more HB8.out hA9)
        have hs9 : b6 ≤ (w8.alloc (.cells #[.slice A6 n6 c6] 27)).heap.size := Nat.le_trans hs8 hA9.size
        clear hX8 hX9 hA9 hW8 hF8 hn8 D8
        go_upto_region 17 with (first
          | (go_at_call 26; refine D9.out.mono ?_; rintro e' w10 ⟨rfl, A10, c10, hW10, hF10, hn10⟩))
        have HB10 : Hid (Below w.heap.size w w10) := Lib.hid (below_frm HB9.out hF10 (fun i hi => Nat.le_trans HBB.out.2 (hS8 i hi)))
        have D11 := Lib.hid (wbytes_calls w10 p A10 c10 _ hW10 (by have := HSL.out; have h2 := more_le m; simp [cnt_len]; omega))
        clear hW10 hF10 hn10 D9
        go_wp2_with (first
          | (go_at_call 27; refine D11.out.mono ?_; rintro e' w11 ⟨A11, n11, c11, rfl, ho11, hB11⟩))
        go_ret2
        have hcp := own_cap ho11
        refine ⟨A11, n11, c11, rfl, ?_, hcp.1, hcp.2, below_more HB10.out hB11⟩
        have hr11 := RdF.own (S := fun i => i < w.heap.size) ho11 (fun i hi => Nat.lt_of_lt_of_le hi HB10.out.size)
        have e : [] ++ cnt m ++ [SB].flatten = filt k l L := by rw [HFL.out]; simp
        rw [e] at hr11
        exact hr11
end Go.Proofs.Ytplnmjdafchjbaa

/- Package gcs answers as it is to. -/
namespace Go.Proofs.Ytplnmjdafchjbaa
open Go.RowKit
set_option linter.unusedVariables false
set_option linter.unusedSimpArgs false

set_option maxRecDepth 100000 in
set_option maxHeartbeats 3000000 in
theorem buildB_calls (w : World) (k l : Nat) (A : Option Addr) (n c : Nat) (L : List (List UInt8)) (hk : k < 2 ^ 64) (hl : l < 2 ^ 64) (hr : RdM w A n L) (hn : n ≤ 2000) (hL : ∀ t ∈ L, t.length ≤ 1000) (hO : 1000 < (once L).length) :
    Calls Try.prog 11 #[.agg #[.int .u64 (k : Int), .int .u64 (l : Int)], .slice A n c] w fun e w' => ∃ A' c', e = .returned (.tuple #[.slice A' 0 c', .int .i64 4]) ∧ Below w.heap.size w w' := by
  have hk0 : Blk (w.alloc (.cells #[.int .u64 (k : Int), .int .u64 (l : Int)] 23)) w.heap.size [.int .u64 (k : Int), .int .u64 (l : Int)] 23 := Blk.new w _ _
  have HB0 : Hid (Below w.heap.size w (w.alloc (.cells #[.int .u64 (k : Int), .int .u64 (l : Int)] 23))) := Lib.hid (below_al (Below.refl _ _) _)
  have CH := hashes_calls (w.alloc (.cells #[.int .u64 (k : Int), .int .u64 (l : Int)] 23)) k l A n c L hk hl (hr.below HB0.out) hn hL
  have CH2 : Hid (Calls Try.prog 19 #[.agg #[.int .u64 (k : Int), .int .u64 (l : Int)], .slice A n c] (w.alloc (.cells #[.int .u64 (k : Int), .int .u64 (l : Int)] 23)) fun e w' => e = .returned (.tuple #[.slice none 0 0, .int .i64 4]) ∧ Below w.heap.size w w') := Lib.hid (CH.mono fun e w' ⟨hB1, h1⟩ => by
    rcases h1 with ⟨h1, _⟩ | ⟨_, h2⟩
    · omega
    · exact ⟨h2, below_more HB0.out hB1⟩)
  clear CH hr hL hO
  go_enter Try.func11, Try.ntmps11
  go_wp2_with (first
    | ((with_reducible refine at_load 23 (.tmp 2) ?_); refine wpList_load_mid rfl 23 (.tmp 2) rfl (w.heap.size) (0) (by first | rfl | simp [Act.eval]) [.int .u64 (k : Int), .int .u64 (l : Int)] _ (Blk.range hk0) Try.underlying23 rfl (by kernel_rfl) ?_)
    | (go_at_call 19; refine CH2.out.mono ?_; rintro e' w1 ⟨rfl, hB1⟩; have HB1 := Lib.hid hB1; clear hB1 hk0))
  go_ret2
  first
    | exact ⟨none, 0, rfl, HB1.out⟩
    | exact ⟨⟨none, 0, rfl⟩, HB1.out⟩
set_option maxRecDepth 100000 in
theorem gcsOk : GcsOk where
  build := fun W k l A n c L h1 h2 h3 _ _ h4 h5 h6 => build_calls W k l A n c L h1 h2 h3 h4 h5 h6
  buildB := fun W k l A n c L h1 h2 h3 _ _ h4 h5 h6 => buildB_calls W k l A n c L h1 h2 h3 h4 h5 h6
  values := fun W A n c b h1 _ _ h2 => values_calls W A n c b h1 h2
  match_ := fun W k l A n c b X m d t h1 h2 h3 _ _ h4 h5 h6 _ h7 => match_calls W k l A n c b X m d t h1 h2 h3 h4 h5 h6 h7
  any := fun W k l A n c b X m d L h1 h2 h3 _ _ h4 h5 _ _ h6 h7 => any_calls W k l A n c b X m d L h1 h2 h3 h4 h5 h6 h7
end Go.Proofs.Ytplnmjdafchjbaa

/- Layer 13's own awake, over what package gcs is to answer. -/
namespace Go.Proofs.Ytplnmjdafchjbaa
open Go.RowKit
set_option linter.unusedVariables false
set_option linter.unusedSimpArgs false

set_option maxRecDepth 100000 in
theorem hit_mem (k l : Nat) (L : List (List UInt8)) (t : List UInt8) (hk : k < 2 ^ 64) (hl : l < 2 ^ 64) (hn : (once L).length ≤ 1000) (h : t ∈ L) : hit k l (vals (filt k l L)).1 t = true := by
  rw [vals_filt k l L hk hl hn]
  show hit k l (gnums k l L) t = true
  unfold hit
  rw [gnums_len]
  have hm := gnums_mem k l L t h
  unfold amn
  rw [← gnums_len k l L, List.take_length, List.any_eq_true, gnums_len]
  exact ⟨_, hm, by simp⟩
set_option maxRecDepth 100000 in
theorem hits_all (k l : Nat) (L : List (List UInt8)) (hk : k < 2 ^ 64) (hl : l < 2 ^ 64) (hn : (once L).length ≤ 1000) : hits k l (vals (filt k l L)).1 L = List.range L.length := by
  unfold hits
  rw [List.filter_eq_self]
  intro i hi
  rw [List.mem_range] at hi
  refine hit_mem k l L _ hk hl hn ?_
  rw [List.getD_eq_getElem?_getD, List.getElem?_eq_getElem hi]
  exact List.getElem_mem hi
set_option maxRecDepth 100000 in
theorem filt_one (k l : Nat) (t : List UInt8) (hk : k < 2 ^ 64) (hl : l < 2 ^ 64) : ∃ X, filt k l [t] = 1 :: X ∧ X.length = 3 := by
  have ho : once [t] = [t] := rfl
  have hg : ∃ x, gnums k l [t] = [x] ∧ x < 784931 := by
    have h1 := gnums_len k l [t]
    have h2 := gnums_lt k l [t] hk hl
    rw [ho] at h1 h2
    obtain ⟨x, hx⟩ := List.length_eq_one_iff.1 h1
    exact ⟨x, hx, by have := h2 x (by rw [hx]; exact List.mem_singleton.2 rfl); simpa using this⟩
  obtain ⟨x, hx, hlt⟩ := hg
  unfold filt
  rw [hx, ho]
  have hk19 : hld 19 32 = 19 := by decide
  have hq : rq 19 (x - 0) ≤ 1 := by
    unfold rq
    rw [hk19]
    have : (x - 0) / 2 ^ 19 ≤ 784931 / 2 ^ 19 := Nat.div_le_div_right (by omega)
    exact Nat.le_trans this (by decide)
  have hst : stp 19 0 [x] = (rcode 19 (x - 0), 0) := by
    rw [stp_cons, if_neg (by omega), if_neg (by omega)]
    show cmb _ _ = _
    unfold cmb stp
    simp
  refine ⟨stB (stp 19 0 [x]), rfl, ?_⟩
  rw [hst]
  unfold stB
  rw [if_neg (by simp), pack_len, rcode_len, hk19]
  omega
set_option maxRecDepth 100000 in
set_option maxHeartbeats 4000000 in
theorem awake13_calls (K : GcsOk) (w : World) : Calls Try.prog 10 #[] w (Ret w (.bool true)) := by
  obtain ⟨X, hX, hX3⟩ := filt_one 1 2 [1] (by omega) (by omega)
  obtain ⟨F, hF⟩ : ∃ z, z = filt 1 2 [[1]] := ⟨_, rfl⟩
  have hF4 : F.length = 4 := by rw [hF, hX]; simp [hX3]
  have hF0 : F[0]? = some 1 := by rw [hF, hX]; rfl
  have hv2 : (vals F).2 = 0 := by rw [hF, vals_filt 1 2 [[1]] (by omega) (by omega) (by decide)]
  have hht : hit 1 2 (vals F).1 [1] = true := by rw [hF]; exact hit_mem 1 2 [[1]] [1] (by omega) (by omega) (by decide) (List.mem_singleton.2 rfl)
  have hrb : ∀ W : World, Rd (W.alloc (.cells #[.int .u8 1] 5)) (some ⟨W.heap.size, 0, none⟩) 1 [1] := fun W => (Blk.new W #[.int .u8 1] 5).rd 0 1 [1] rfl (fun j hj => by
    have e : j = 0 := by simp at hj; exact hj
    subst e; rfl)
  have C1 : Hid (∀ W : World, Calls Try.prog 11 #[.agg #[.int .u64 1, .int .u64 2], .slice none 0 0] W fun e w' => ∃ A' n' c', e = .returned (.tuple #[.slice A' n' c', .int .i64 0]) ∧ Rd w' A' n' [0] ∧ n' ≤ c' ∧ c' ≤ maxLen ∧ Below W.heap.size W w') := Lib.hid fun W => by
    have h := K.buildR W 1 2 none 0 0 [] (by omega) (by omega) ⟨rfl, fun h => absurd h (by omega)⟩ (by omega) (by unfold maxLen; omega) (by omega) (fun t ht => by simp at ht) (by decide)
    rw [filt_nil] at h
    exact h
  have C2 : Hid (∀ W : World, Calls Try.prog 11 #[.agg #[.int .u64 1, .int .u64 2], .slice (some ⟨W.heap.size + 1, 0, none⟩) 1 1] ((W.alloc (.cells #[.int .u8 1] 5)).alloc (.cells #[.slice (some ⟨W.heap.size, 0, none⟩) 1 1] 27)) fun e w' => ∃ b off c', e = .returned (.tuple #[.slice (some ⟨b, off, none⟩) 4 c', .int .i64 0]) ∧ Rd w' (some ⟨b, off, none⟩) 4 F ∧ 4 ≤ c' ∧ c' ≤ maxLen ∧ Below W.heap.size W w') := Lib.hid fun W => by
    have h := K.buildR ((W.alloc (.cells #[.int .u8 1] 5)).alloc (.cells #[.slice (some ⟨W.heap.size, 0, none⟩) 1 1] 27)) 1 2 (some ⟨W.heap.size + 1, 0, none⟩) 1 1 [[1]] (by omega) (by omega)
      (rdm_one _ _ (by simp) _ 1 1 [1] _ (hrb W) (by omega) (by unfold maxLen; omega)) (by omega) (by unfold maxLen; omega) (by omega) (fun t ht => by rw [List.mem_singleton.1 ht]; simp) (by decide)
    rw [← hF] at h
    refine h.mono ?_
    rintro e w' ⟨A', n', c', rfl, h1, h2, h3, h4⟩
    have hn := h1.len
    rw [hF4] at hn
    subst hn
    obtain ⟨b, off, rfl, _⟩ := h1.2 (by omega)
    exact ⟨b, off, c', rfl, h1, h2, h3, (((Below.refl _ W).alloc (Nat.le_refl _) _).alloc (by simp) _).trans (h4.mono (by simp; omega))⟩
  have C3 : Hid (∀ (W : World) (A : Option Addr) (c : Nat), Rd W A 4 F → 4 ≤ c → c ≤ maxLen → Calls Try.prog 16 #[.agg #[.int .u64 1, .int .u64 2], .slice A 4 c, .slice (some ⟨W.heap.size, 0, none⟩) 1 1] (W.alloc (.cells #[.int .u8 1] 5)) (Ret W (.tuple #[.bool true, .int .i64 0]))) := Lib.hid fun W A c h1 h2 h3 => by
    have h := K.match_ (W.alloc (.cells #[.int .u8 1] 5)) 1 2 A 4 c F (some ⟨W.heap.size, 0, none⟩) 1 1 [1] (by omega) (by omega) (h1.below ((Below.refl _ W).alloc (Nat.le_refl _) _)) h2 h3 (by omega) (hrb W) (by omega) (by unfold maxLen; omega) (by omega)
    rw [hht, hv2] at h
    refine h.mono ?_
    rintro e w' ⟨rfl, h4⟩
    exact ⟨rfl, ((Below.refl _ W).alloc (Nat.le_refl _) _).trans (h4.mono (by simp))⟩
  clear K hX hX3 hv2 hht hrb hF
  go_enter Try.func10, Try.ntmps10
  go_upto_region 2 with (go_at_call 11; refine (C1.out _).mono ?_; rintro e' w1 ⟨A1, n1, c1, rfl, hr1, hn1, hc1, hB1⟩)
  clear C1
  go_upto_region 3 with (go_at_call 11; refine (C2.out w1).mono ?_; rintro e' w2 ⟨b2, o2, c2, rfl, hr2, hn2, hc2, hB2⟩)
  clear C2
  have HC3 := Lib.hid (C3.out w2 _ c2 hr2 hn2 hc2)
  have hn1l : n1 = 1 := by have := hr1.len; simp at this; omega
  subst hn1l
  have HR1 := Lib.hid (hr1.below hB2)
  have HR2 := Lib.hid hr2
  have HB2 := Lib.hid (below_more hB1 hB2)
  unfold maxLen at hc1 hc2
  clear C3 hr1 hr2 hB1 hB2
  go_upto_region 4 with (go_at_call 16; refine HC3.out.mono ?_; rintro e' w3 ⟨rfl, hB3⟩)
  have hcv : (convert 27 9 (.slice A1 1 c1)).run Try.prog w3 = .ok (.string ⟨#[0]⟩) w3 := conv8 w3 A1 1 c1 [0] (HR1.out.below hB3)
  have hc0 : w3.cell? ⟨b2, o2, none⟩ = some (.int .u8 1) := by
    have h := HR2.out.below hB3
    obtain ⟨b', o', e, _, hc⟩ := h.2 (by omega)
    injection e with e
    injection e with e1 e2 _
    have h0 := hc 0 (by rw [hF4]; omega)
    obtain ⟨_, e5⟩ := List.getElem?_eq_some_iff.1 hF0
    rw [e5] at h0
    rw [e1, e2]
    exact h0
  have HB3 := Lib.hid (below_more HB2.out hB3)
  clear hB3
  go_wp2
  go_ret
  exact ⟨rfl, HB3.out⟩
end Go.Proofs.Ytplnmjdafchjbaa
