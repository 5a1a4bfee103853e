/- Merged texts: ShaE ShaU. -/
import Derived.Test.YtnfcnjboeocnmaaDoorMai
import Derived.Test.YtnfcnjboeocnmaaDoorMaa
import Derived.Test.YtnfcnjboeocnmaaDoorMad
import Derived.Deep.RegionWith
import Derived.Deep.DrawnRows
import Derived.Deep.Onto
import Derived.Test.YtnfcnjboeocnmaaDoorMaj
import Derived.Test.YtnfcnjboeocnmaaDoorMah
/- The contract of sha2.ending: what follows a text. -/
namespace Go.Proofs.YtnfcnjboeocnmaaDoor
open Go.RowKit
set_option linter.unusedVariables false
attribute [local go_sem ↓] Go.wp_at_zero Go.wp_at_succ

set_option maxRecDepth 100000 in
theorem Mk.down {w W : World} {l : List UInt8} {e : Ending} {w' : World} (h : Mk W l e w') (hb : Below w.heap.size w W) : Mk w l e w' := by
  obtain ⟨A, n, c, he, ho, hbl⟩ := h
  exact ⟨A, n, c, he, ⟨ho.1, ho.2.mono hb.size⟩, hb.trans (hbl.mono hb.size)⟩
set_option maxRecDepth 100000 in
theorem below_of {w W0 w' : World} (h : Below W0.heap.size W0 w') (h0 : Below w.heap.size w W0) : Below w.heap.size w w' := h0.trans (h.mono h0.size)
set_option maxRecDepth 100000 in
theorem below_drew {B : Nat} {w X : World} (h : Below B w X) : Below B w X.drew := ⟨h.os, h.tape, h.output, h.size, h.block⟩
set_option maxRecDepth 100000 in
theorem Rd.alloc {w : World} {A : Option Addr} {n : Nat} {l : List UInt8} (h : Rd w A n l) (o : Obj) : Rd (w.alloc o) A n l := h.below ((Below.refl _ w).alloc (Nat.le_refl _) o)
set_option maxRecDepth 100000 in
theorem Rd.drew {w : World} {A : Option Addr} {n : Nat} {l : List UInt8} (h : Rd w A n l) : Rd w.drew A n l := h
set_option maxRecDepth 100000 in
theorem rd_one {w : World} {g : Nat} {t : TypeId} {z : Int} {u : UInt8} (h : Blk w g [.int .u8 z] t) (hz : z = (u.toNat : Int)) : Rd w (some ⟨g, 0, none⟩) 1 [u] := by
  subst hz
  exact h.rd 0 1 [u] rfl fun j hj => by
    have : j = 0 := by simp at hj; omega
    subst this
    rfl
set_option maxRecDepth 100000 in
theorem rd_zeros {w : World} {g : Nat} {t : TypeId} {z : Nat} (h : Blk w g (madeCells #[.int .u8 0] z).toList t) : Rd w (some ⟨g, 0, none⟩) z (List.replicate z 0) := by
  rw [toList_madeCells_one] at h
  refine h.rd 0 z _ (by simp) fun j hj => ?_
  simp at hj
  simp [hj]
set_option maxRecDepth 100000 in
/-- octet.Join of three byte slices that are laid out anew. -/
theorem join3_calls (W : World) (g : Nat) (hg : W.heap.size = g) (A1 A2 A3 : Option Addr) (n1 n2 n3 c1 c2 c3 : Nat) (l1 l2 l3 : List UInt8) (h1 : Rd W A1 n1 l1) (h2 : Rd W A2 n2 l2) (h3 : Rd W A3 n3 l3) (hs : n1 + n2 + n3 ≤ 100000) :
    Calls Tryd.prog 50 #[.slice (some ⟨g, 0, none⟩) 3 3] (W.alloc (.cells #[.slice A1 n1 c1, .slice A2 n2 c2, .slice A3 n3 c3] 68))
      (Mk (W.alloc (.cells #[.slice A1 n1 c1, .slice A2 n2 c2, .slice A3 n3 c3] 68)) (l1 ++ l2 ++ l3)) := by
  have hb := Blk.new' W #[.slice A1 n1 c1, .slice A2 n2 c2, .slice A3 n3 c3] 68 g hg
  have e1 := h1.len
  have e2 := h2.len
  have e3 := h3.len
  have hr : RdL (W.alloc (.cells #[.slice A1 n1 c1, .slice A2 n2 c2, .slice A3 n3 c3] 68)) (some ⟨g, 0, none⟩) 3 [l1, l2, l3] := by
    refine ⟨rfl, fun _ => ⟨g, 0, rfl, hb.lt, fun j hj => ?_⟩⟩
    rcases j with _ | _ | _ | j
    · exact ⟨A1, n1, c1, hb.cell 0, by unfold maxLen; omega, h1.alloc _⟩
    · exact ⟨A2, n2, c2, hb.cell 1, by unfold maxLen; omega, h2.alloc _⟩
    · exact ⟨A3, n3, c3, hb.cell 2, by unfold maxLen; omega, h3.alloc _⟩
    · exact absurd hj (by simp)
  have h := join_calls (some ⟨g, 0, none⟩) 3 3 [l1, l2, l3] _ (by omega) (by simp; omega) hr
  simpa [List.append_assoc] using h

set_option maxRecDepth 100000 in
set_option maxHeartbeats 400000 in
theorem ending_calls (n : Nat) (w : World) (hn : n ≤ 1000000000000) :
    Calls Tryd.prog 44 #[.int .i64 (n : Int)] w (Mk w (tail n)) := by
  obtain ⟨z, hz⟩ : ∃ z, z = (64 - (n + 9) % 64) % 64 := ⟨_, rfl⟩
  have hz64 : z < 64 := by omega
  obtain ⟨u, hu⟩ : ∃ u, u = (n + 9) % 64 := ⟨_, rfl⟩
  have hu64 : u < 64 := by omega
  have e1 : ((n : Int) + 1 + 8).tmod 64 = (u : Int) := by rw [Int.tmod_eq_emod_of_nonneg (by omega)]; omega
  have e2 : ((64 : Int) - (u : Int)).tmod 64 = (z : Int) := by rw [Int.tmod_eq_emod_of_nonneg (by omega)]; omega
  obtain ⟨N8, h8⟩ : ∃ N8 : Nat, N8 = 8 * n := ⟨_, rfl⟩
  have e3 : IntKind.u64.wrap (8 * (n : Int)) = (N8 : Int) := by rw [IntKind.wrap_u64]; omega
  have e4 : IntKind.u64.wrap (n : Int) = (n : Int) := by rw [IntKind.wrap_u64]; omega
  have hmk := fun W => run_mk8 z (by omega) W
  have H := Lib.hid (And.intro hz (And.intro hu h8))
  clear hz hu h8
  go_enter Tryd.func44, Tryd.ntmps44
  go_wp2
  have hzz : z + 9 ≤ 100000 := by omega
  go_region_with (first
    | (go_at_call 45; refine (great_calls N8 8 8 (by decide) _).mono ?_; rintro e' w' ⟨A, k, c, rfl, hown, hbel⟩; have hk := hown.len)
    | (go_at_call 50
       refine (join3_calls _ _ (by simp) _ _ _ _ _ _ _ _ _ [128] (List.replicate z 0) (great N8 8) (rd_one (t := 5) ?_ rfl) (rd_zeros (t := 5) ?_) ?_ ?_).mono ?_
       · first | exact Blk.new' _ _ _ _ (by simp) | exact (Blk.new' _ _ _ _ (by simp)).drew | exact (Blk.new' _ _ _ _ (by simp)).alloc _ | exact Blk.below (Blk.drew (Blk.new' _ _ _ _ (by simp))) hbel (by simp) | exact Blk.below (Blk.drew ((Blk.new' _ _ _ _ (by simp)).alloc _)) hbel (by simp; omega) | exact (Blk.below (Blk.drew (Blk.new' _ _ _ _ (by simp))) hbel (by simp)).alloc _
       · first | exact Blk.new' _ _ _ _ (by simp) | exact (Blk.new' _ _ _ _ (by simp)).drew | exact (Blk.new' _ _ _ _ (by simp)).alloc _ | exact Blk.below (Blk.drew (Blk.new' _ _ _ _ (by simp))) hbel (by simp) | exact Blk.below (Blk.drew ((Blk.new' _ _ _ _ (by simp)).alloc _)) hbel (by simp; omega) | exact (Blk.below (Blk.drew (Blk.new' _ _ _ _ (by simp))) hbel (by simp)).alloc _
       · first | exact hown.rd | exact hown.rd.alloc _ | exact (hown.rd.alloc _).alloc _
       · simp at hk; omega
       rintro e' w9 ⟨A9, k9, c9, rfl, hown9, hbel9⟩))
  all_goals go_wp2
  all_goals go_ret
  all_goals rw [show tail n = [128] ++ List.replicate z 0 ++ great N8 8 from by unfold tail; rw [H.out.1, H.out.2.2]]
  all_goals refine Mk.down ⟨_, _, _, rfl, hown9, hbel9⟩ ?_
  all_goals have hB' : Below w.heap.size w w' := below_of hbel (by first | exact below_drew (Below.refl _ w) | exact below_drew ((Below.refl _ w).alloc (Nat.le_refl _) _) | exact below_drew (((Below.refl _ w).alloc (Nat.le_refl _) _).alloc (by simp) _))
  all_goals have hsz' := hB'.size
  all_goals first | exact hB'.alloc hsz' _ | exact (hB'.alloc hsz' _).alloc (by simp; omega) _ | exact ((hB'.alloc hsz' _).alloc (by simp; omega) _).alloc (by simp; omega) _
end Go.Proofs.YtnfcnjboeocnmaaDoor

/- The contract of Hasher.Sum: the hash of all bytes written. -/
namespace Go.Proofs.YtnfcnjboeocnmaaDoor
open Go.RowKit
set_option linter.unusedVariables false
attribute [local go_sem ↓] Go.wp_at_zero Go.wp_at_succ

/-- What stands in the hash while its words are laid. -/
def hpart (S : List Nat) (t : Nat) : List UInt8 := ((S.take t).map fun x => great x 4).flatten ++ List.replicate (32 - 4 * t) 0
set_option maxRecDepth 100000 in
theorem flat4 (S : List Nat) : ((S.map fun x => great x 4).flatten).length = 4 * S.length := by
  induction S with
  | nil => rfl
  | cons x S ih => simp [ih]; omega
set_option maxRecDepth 100000 in
theorem hpart_len (S : List Nat) (t : Nat) (hS : S.length = 8) (ht : t ≤ 8) : (hpart S t).length = 32 := by
  unfold hpart
  rw [List.length_append, flat4, List.length_take, List.length_replicate, hS]
  omega
set_option maxRecDepth 100000 in
theorem hpart_step (S : List Nat) (t : Nat) (hS : S.length = 8) (ht : t < 8) : over ((hpart S t).map B8) (4 * t) ((great (S.getD t 0) 4).map B8) = (hpart S (t + 1)).map B8 := by
  have hl : ((S.take t).map fun x => great x 4).flatten.length = 4 * t := by rw [flat4, List.length_take, hS]; omega
  have e1 : ((hpart S t).map B8).take (4 * t) = (((S.take t).map fun x => great x 4).flatten).map B8 := by
    rw [← List.map_take]
    unfold hpart
    rw [List.take_append_of_le_length (by omega), List.take_of_length_le (by omega)]
  have e2 : ((hpart S t).map B8).drop (4 * t + ((great (S.getD t 0) 4).map B8).length) = (List.replicate (32 - 4 * (t + 1)) 0).map B8 := by
    rw [← List.map_drop, List.length_map, great_len]
    unfold hpart
    rw [List.drop_append, List.drop_of_length_le (by omega), List.nil_append, hl, List.drop_replicate]
    congr 2
    omega
  unfold over
  rw [e1, e2]
  conv => rhs; unfold hpart
  have e3 : S.take (t + 1) = S.take t ++ [S.getD t 0] := by
    rw [List.take_succ_eq_append_getElem (show t < S.length by omega)]
    simp [List.getD, List.getElem?_eq_getElem (show t < S.length by omega)]
  rw [e3, List.map_append (l₁ := S.take t), List.flatten_append]
  simp only [List.map_append, List.map_cons, List.map_nil, List.flatten_cons, List.flatten_nil, List.append_nil, List.append_assoc]
set_option maxRecDepth 100000 in
theorem hpart_all (s : St) : hpart s.list 8 = s.bytes := by
  unfold hpart St.bytes
  rw [List.take_of_length_le (by rw [list_len]; omega)]
  simp
set_option maxRecDepth 100000 in
theorem own_ge {w : World} {base n c g off : Nat} {A : Option Addr} {l : List UInt8} (h : Own w base A n c l) (hA : A = some ⟨g, off, none⟩) (hn : 0 < n) : base ≤ g ∧ off = 0 ∧ n ≤ c := by
  obtain ⟨hl, h1, h | ⟨g', cap, cur, hv, hb, _, hc, _⟩⟩ := h
  · have := h.2
    omega
  · rw [hA] at hv
    injection hv with e1 e2 e3
    injection e1 with e4
    injection e4 with e5 e6
    subst e5 e6
    exact ⟨hb, rfl, by omega⟩
set_option maxRecDepth 100000 in
theorem great4_calls (x : Nat) (w : World) : Calls Tryd.prog 45 #[.int .u64 (x : Int), .int .i64 4] w fun e w' =>
    ∃ ga c, e = .returned (.slice (some ⟨ga, 0, none⟩) 4 c) ∧ w.heap.size ≤ ga ∧ Rd w' (some ⟨ga, 0, none⟩) 4 (great x 4) ∧ Below w.heap.size w w' := by
  refine (great_calls x 4 4 (by decide) w).mono ?_
  rintro e w' ⟨A, n, c, rfl, ho, hb⟩
  have hn := ho.len
  rw [great_len] at hn
  subst hn
  obtain ⟨g, off, rfl, _, _⟩ := ho.rd.2 (by omega)
  obtain ⟨h1, rfl, _⟩ := own_ge ho rfl (by omega)
  exact ⟨g, c, rfl, h1, ho.rd, hb⟩
set_option maxRecDepth 100000 in
theorem fin_lt (l : List UInt8) (t : Nat) : (fin l).list.getD t 0 < 4294967296 := by
  have h := chain_ok h0 (l ++ tail l.length) ((l ++ tail l.length).length / 64) h0_ok
  rw [List.getD_eq_getElem?_getD]
  cases hx : (fin l).list[t]? with
  | none => simp
  | some x => exact h x (List.mem_of_getElem? hx)
set_option maxRecDepth 100000 in
theorem vals_at (s : St) (t : Nat) (ht : t < 8) : s.vals[t]? = some (.int .u32 (s.list.getD t 0 : Int)) := map_at s.list t ht

set_option maxRecDepth 100000 in
set_option maxHeartbeats 1000000 in
theorem hsum_calls (w : World) (b : Nat) (l : List UInt8) (hH : Hs w b l) (hT : Tab w) (hn : l.length ≤ 100000000000) :
    Calls Tryd.prog 40 #[.pointer (some ⟨b, 0, none⟩)] w (Ret w (.agg ((sha l).map B8).toArray)) := by
  obtain ⟨B, hB, hd, hb⟩ := hH
  obtain ⟨V, hV⟩ : ∃ V, V = hcells (chain h0 l (l.length / 64)) B l.length := ⟨_, rfl⟩
  have hVl : V.length = 73 := by rw [hV]; exact hcells_len _ _ _ hB
  have hV1 : ∀ v ∈ V, v.oneCell' = true := by rw [hV]; exact hcells_one _ _ _
  have hVt : V[72]? = some (.int .i64 (l.length : Int)) := by rw [hV]; exact hcells_total _ _ _ hB
  rw [← hV] at hb
  obtain ⟨N, hN⟩ : ∃ N, N = l.length := ⟨_, rfl⟩
  rw [← hN] at hVt hn
  have hiV : (Tryd.prog.info? 82).map (·.size) = some V.length := by rw [hVl]; exact iH
  have hblt := hb.lt
  have hz0 := (zero_of_info infoH).1
  obtain ⟨z, hz⟩ : ∃ z, z = zh := ⟨_, rfl⟩
  rw [← hz] at hz0
  have hzs : z.size = 73 := by rw [hz]; rfl
  have ct : w.cell? ⟨b, 72, none⟩ = some (.int .i64 (N : Int)) := by rw [hb.cell, hVt]
  have HB := Lib.hid hb
  have HV := Lib.hid (And.intro hV hN)
  have HI := Lib.hid hiV
  have HVL := Lib.hid hVl
  have HD := Lib.hid hd
  clear hb hV hN hiV hVl hd hz
  go_enter Tryd.func40, Tryd.ntmps40
  go_wp2_with (first
    | (refine at_load 82 (.tmp 8) ?_; refine wpList_load_mid rfl 82 (.tmp 8) rfl b 0 rfl V _ (HB.out.alloc _).range Tryd.underlying82 rfl HI.out ?_)
    | (refine at_store 82 (.tmp 3) (.tmp 9) ?_; refine wpList_store_blk rfl 82 (.tmp 3) (.tmp 9) rfl (w.heap.size + 1) _ V _ rfl rfl (Blk.new' (w.alloc _) _ _ (w.heap.size + 1) (by simp)) (by rw [HVL.out, Array.length_toList, hzs]) HI.out hV1 ?_; intro w1 hb1 ho1
       have hbw1 : Blk w1 b V 82 := ho1.blk ((HB.out.alloc _).alloc _) (by omega)
       have ct1 : w1.cell? ⟨b, 72, none⟩ = some (.int .i64 (N : Int)) := by rw [hbw1.cell, hVt]
       have hB1 : Below w.heap.size w w1 := (((Below.refl _ w).alloc (Nat.le_refl _) _).alloc (by simp) _).trans (ho1.below (by omega))
       have hz32 : Blk w1 w.heap.size ((List.replicate 32 (0 : UInt8)).map B8) 35 := ho1.blk ((Blk.new w _ _).alloc _) (by omega)
       have hHe : Hs w1 (w.heap.size + 1) l := ⟨B, hB, HD.out, by rw [← HV.out.1]; exact hb1⟩
       have hs1 : w.heap.size + 2 ≤ w1.heap.size := by rw [ho1.size]; simp
       have J1 := Lib.hid hB1
       have J2 := Lib.hid hz32
       have J3 := Lib.hid hHe
       have J4 := Lib.hid hs1
       clear hbw1 hB1 hz32 hHe hs1 hb1 ho1)
    | (go_at_call 44; refine (ending_calls N _ (by omega)).mono ?_; rintro e' w2 ⟨A, k, c, rfl, hown, hbel2⟩)
    | (go_at_call 39
       have hkl := hown.len
       have hk0 : 0 < k := by rw [← hkl, tail_len]; omega
       have hs1 := J4.out
       have hs2 := hbel2.size
       have hB2 : Below w.heap.size w w2 := J1.out.trans (hbel2.mono (by omega))
       have hrx : RdX w2 (w.heap.size + 1) A k (tail N) := RdX.of hown.rd (fun g off e hn0 => by have := (own_ge hown e hn0).1; omega)
       have hkc : k ≤ c := by obtain ⟨g, off, e, _, _⟩ := hown.rd.2 hk0; exact (own_ge hown e hk0).2.2
       have hlt := hT.lt
       refine (write_calls block_calls w2 (w.heap.size + 1) l (tail N) A k c (J3.out.below hbel2 (by omega)) hrx (hT.all hB2) (by omega) (by omega) (by rw [← hkl, tail_len, ← HV.out.2]; omega) hkc).mono ?_
       rintro e' w3 ⟨rfl, hHs3, hbes3⟩
       have hB3 : Below w.heap.size w w3 := hB2.trans (hbes3.below (by omega) (by omega))
       have hz3 : Blk w3 w.heap.size ((List.replicate 32 (0 : UInt8)).map B8) 35 := (hbes3.block _ (by omega) (by omega)).trans (J2.out.below hbel2 (by omega))
       obtain ⟨S, hS⟩ : ∃ S, S = fin l := ⟨_, rfl⟩
       have hst3 : w3.rangeAt (w.heap.size + 1) 0 S.vals := by
         obtain ⟨B3, _, _, hb3⟩ := hHs3
         have := state_range hb3
         rw [HV.out.2] at this
         rw [hS]
         exact this
       have K1 := Lib.hid hB3
       have K2 := Lib.hid hz3
       have K3 := Lib.hid hst3
       have K4 := Lib.hid hS
       have K5 := Lib.hid (show w.heap.size + 2 ≤ w3.heap.size from Nat.le_trans (by omega) hbes3.size)
       clear hkl hk0 hs1 hs2 hB2 hrx hkc hlt hB3 hz3 hS hst3 hHs3 hbes3 hown hbel2 ct1)
    | (refine at_load 77 (.tmp 16) ?_; refine wpList_load_mid rfl 77 (.tmp 16) rfl (w.heap.size + 1) 0 rfl S.vals _ (World.rangeAt_alloc K3.out _) Tryd.underlying77 rfl i8 ?_))
  go_loopw [18] (fun i wr => ∃ t : Nat, t ≤ 8 ∧ i = .int .i64 t ∧ Blk wr w3.heap.size ((hpart S.list t).map B8) 35 ∧ Blk wr w.heap.size ((List.replicate 32 (0 : UInt8)).map B8) 35 ∧ Below w.heap.size w wr) (fun i _ => 8 - (intOf i).toNat)
  case atStart =>
    have h5 := K5.out
    exact ⟨0, by omega, rfl, Blk.new w3 _ _, K2.out.alloc _, K1.out.alloc (by omega) _⟩
  case round =>
    obtain ⟨t, ht, rfl, hb4, hb2, hbl⟩ := hrel
    have h5 := K5.out
    by_cases hlt : t < 8
    · obtain ⟨x, hx⟩ : ∃ x, x = S.list.getD t 0 := ⟨_, rfl⟩
      have hix := fun W => run_idx (P := Tryd.prog) 77 76 8 Tryd.underlying77 .u32 Tryd.underlying76 (by kernel_rfl) S.vals t (.int .u32 (x : Int)) hlt (by rw [hx]; exact vals_at S t hlt) W
      obtain ⟨q, hq⟩ : ∃ q, q = 4 * t := ⟨_, rfl⟩
      have hv : IntKind.i64.wrap (4 * (t : Int)) = (q : Int) := by rw [IntKind.wrap_i64]; omega
      have hsl := fun W => run_sl_l (P := Tryd.prog) 35 5 32 Tryd.underlying35 size8 w3.heap.size 0 q (q : Int) rfl (by omega) W
      rw [Nat.zero_add] at hsl
      have hlen4 : ((great x 4).map B8).length = Nat.min 4 (32 - q) := by rw [List.length_map, great_len]; exact (Nat.min_eq_left (by omega)).symm
      have hfit : q + ((great x 4).map B8).length ≤ ((hpart S.list t).map B8).length := by rw [List.length_map, great_len, List.length_map, hpart_len _ _ (list_len S) ht]; omega
      have hB4 : Hid (∀ w', Below wr.drew.heap.size wr.drew w' → Blk w' w3.heap.size ((hpart S.list t).map B8) 35) := Lib.hid fun w' hb => Blk.below (w := wr.drew) hb4 hb hb4.lt
      have FIN : Hid (∀ w' w5, Below wr.drew.heap.size wr.drew w' → Blk w5 w3.heap.size (over ((hpart S.list t).map B8) q ((great x 4).map B8)) 35 → Only w3.heap.size w' w5 → ∃ t_1 : Nat, t_1 ≤ 8 ∧ Value.int .i64 ((t : Int) + 1) = .int .i64 (t_1 : Int) ∧ Blk w5 w3.heap.size ((hpart S.list t_1).map B8) 35 ∧ Blk w5 w.heap.size ((List.replicate 32 (0 : UInt8)).map B8) 35 ∧ Below w.heap.size w w5) := Lib.hid (by
        intro w' w5 hb hb5 ho5
        rw [hx, hq, hpart_step _ _ (list_len S) hlt] at hb5
        have hbw : Below wr.heap.size wr w' := ⟨hb.os, hb.tape, hb.output, hb.size, hb.block⟩
        exact ⟨t + 1, by omega, by go_num, hb5, ho5.blk (hb2.below hbw hb2.lt) (by omega), (hbl.trans (hbw.mono hbl.size)).trans (ho5.below (by omega))⟩)
      have L1 := Lib.hid hlen4
      have L2 := Lib.hid hfit
      have bt : (t : Int) < 8 := by omega
      have hxc : IntKind.u64.wrap (x : Int) = (x : Int) := by
        have : x < 4294967296 := by rw [hx, K4.out]; exact fin_lt l t
        rw [IntKind.wrap_u64]; omega
      clear hb4 hb2 hx hq hlen4 hfit
      go_wp2
      go_region_law (first
        | (refine step_copy_blk rfl _ _ 68 68 rfl 5 Tryd.underlying68 size8 w3.heap.size q ⟨ga, 0, none⟩ (32 - q) (32 - q) 4 c4 rfl rfl _ 35 (hB4.out w' hbel') ((great x 4).map B8) L1.out (src_of_rd hrd4 (by omega)) L2.out (b8_one _) ?_; intro w5 hb5 ho5)
        | (go_simp; go_at_call 45; refine (great4_calls x _).mono ?_; rintro e' w' ⟨ga, c4, rfl, hga, hrd4, hbel'⟩))
      all_goals go_wp2
      all_goals go_roundw
      all_goals first | exact FIN.out w' w5 hbel' hb5 ho5 | (simp [intOf]; omega)
    · have e : t = 8 := by omega
      subst e
      rw [hpart_all] at hb4
      obtain ⟨V9, hV9⟩ : ∃ V, V = S.bytes.map B8 := ⟨_, rfl⟩
      have hV9l : V9.length = 32 := by rw [hV9, List.length_map, St.bytes_len]
      have hV91 : ∀ v ∈ V9, v.oneCell' = true := by rw [hV9]; exact b8_one _
      rw [← hV9] at hb4
      have hi9 : (Tryd.prog.info? 35).map (·.size) = some V9.length := by rw [hV9l]; exact i32
      have M1 := Lib.hid hb4
      have M2 := Lib.hid hb2
      have M3 := Lib.hid hV9
      have M4 := Lib.hid hV9l
      have M5 := Lib.hid hi9
      clear hb4 hb2 hV9 hV9l hi9
      go_wp2_with (first
        | (refine at_load 35 (.tmp 4) ?_; refine wpList_load_mid rfl 35 (.tmp 4) rfl w3.heap.size 0 rfl V9 _ M1.out.range Tryd.underlying35 rfl M5.out ?_)
        | (refine at_store 35 (.tmp 2) (.tmp 30) ?_; refine wpList_store_blk rfl 35 (.tmp 2) (.tmp 30) rfl w.heap.size _ V9 _ rfl rfl M2.out (by rw [M4.out]; simp) M5.out hV91 ?_; intro w9 hb9 ho9))
      refine bodyPost_ret (v := .agg V9.toArray) ?_ rfl ⟨by rw [M3.out, K4.out]; rfl, hbl.trans (ho9.below (Nat.le_refl _))⟩
      exact results_cell_row Tryd.results40 _ _ w.heap.size 35 _ (0, 0) _ (by rfl) hb9 Tryd.underlying35 rfl (by rw [List.size_toArray]; exact M5.out)
end Go.Proofs.YtnfcnjboeocnmaaDoor
