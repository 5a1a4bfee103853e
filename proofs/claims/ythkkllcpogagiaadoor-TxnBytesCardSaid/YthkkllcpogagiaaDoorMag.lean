/- Merged texts: ShaE ShaU RdM ShaV. -/
import Derived.Test.YthkkllcpogagiaaDoorMaf
import Derived.Test.YthkkllcpogagiaaDoorMaa
import Derived.Test.YthkkllcpogagiaaDoorMab
import Derived.Deep.RegionWith
import Derived.Deep.DrawnRows
import Derived.Deep.Onto
import Derived.Test.YthkkllcpogagiaaDoorMae
import Derived.Test.YthkkllcpogagiaaDoorMac
/- The contract of sha2.ending: what follows a text. -/
namespace Go.Proofs.YthkkllcpogagiaaDoor
open Go.RowKit
set_option linter.unusedVariables false
attribute [local go_sem ↓] Go.wp_at_zero Go.wp_at_succ

set_option maxRecDepth 100000 in
theorem Mk.down {w W : World} {l : List UInt8} {e : Ending} {w' : World} (h : Mk W l e w') (hb : Below w.heap.size w W) : Mk w l e w' := by
  obtain ⟨A, n, c, he, ho, hbl⟩ := h
  exact ⟨A, n, c, he, ⟨ho.1, ho.2.mono hb.size⟩, hb.trans (hbl.mono hb.size)⟩
set_option maxRecDepth 100000 in
theorem below_of {w W0 w' : World} (h : Below W0.heap.size W0 w') (h0 : Below w.heap.size w W0) : Below w.heap.size w w' := h0.trans (h.mono h0.size)
set_option maxRecDepth 100000 in
theorem below_drew {B : Nat} {w X : World} (h : Below B w X) : Below B w X.drew := ⟨h.os, h.tape, h.output, h.size, h.block⟩
set_option maxRecDepth 100000 in
theorem Rd.alloc {w : World} {A : Option Addr} {n : Nat} {l : List UInt8} (h : Rd w A n l) (o : Obj) : Rd (w.alloc o) A n l := h.below ((Below.refl _ w).alloc (Nat.le_refl _) o)
set_option maxRecDepth 100000 in
theorem Rd.drew {w : World} {A : Option Addr} {n : Nat} {l : List UInt8} (h : Rd w A n l) : Rd w.drew A n l := h
set_option maxRecDepth 100000 in
theorem rd_one {w : World} {g : Nat} {t : TypeId} {z : Int} {u : UInt8} (h : Blk w g [.int .u8 z] t) (hz : z = (u.toNat : Int)) : Rd w (some ⟨g, 0, none⟩) 1 [u] := by
  subst hz
  exact h.rd 0 1 [u] rfl fun j hj => by
    have : j = 0 := by simp at hj; omega
    subst this
    rfl
set_option maxRecDepth 100000 in
theorem rd_zeros {w : World} {g : Nat} {t : TypeId} {z : Nat} (h : Blk w g (madeCells #[.int .u8 0] z).toList t) : Rd w (some ⟨g, 0, none⟩) z (List.replicate z 0) := by
  rw [toList_madeCells_one] at h
  refine h.rd 0 z _ (by simp) fun j hj => ?_
  simp at hj
  simp [hj]
set_option maxRecDepth 100000 in
/-- octet.Join of three byte slices that are laid out anew. -/
theorem join3_calls (W : World) (g : Nat) (hg : W.heap.size = g) (A1 A2 A3 : Option Addr) (n1 n2 n3 c1 c2 c3 : Nat) (l1 l2 l3 : List UInt8) (h1 : Rd W A1 n1 l1) (h2 : Rd W A2 n2 l2) (h3 : Rd W A3 n3 l3) (hs : n1 + n2 + n3 ≤ 100000) :
    Calls Tryd.prog 54 #[.slice (some ⟨g, 0, none⟩) 3 3] (W.alloc (.cells #[.slice A1 n1 c1, .slice A2 n2 c2, .slice A3 n3 c3] 28))
      (Mk (W.alloc (.cells #[.slice A1 n1 c1, .slice A2 n2 c2, .slice A3 n3 c3] 28)) (l1 ++ l2 ++ l3)) := by
  have hb := Blk.new' W #[.slice A1 n1 c1, .slice A2 n2 c2, .slice A3 n3 c3] 28 g hg
  have e1 := h1.len
  have e2 := h2.len
  have e3 := h3.len
  have hr : RdL (W.alloc (.cells #[.slice A1 n1 c1, .slice A2 n2 c2, .slice A3 n3 c3] 28)) (some ⟨g, 0, none⟩) 3 [l1, l2, l3] := by
    refine ⟨rfl, fun _ => ⟨g, 0, rfl, hb.lt, fun j hj => ?_⟩⟩
    rcases j with _ | _ | _ | j
    · exact ⟨A1, n1, c1, hb.cell 0, by unfold maxLen; omega, h1.alloc _⟩
    · exact ⟨A2, n2, c2, hb.cell 1, by unfold maxLen; omega, h2.alloc _⟩
    · exact ⟨A3, n3, c3, hb.cell 2, by unfold maxLen; omega, h3.alloc _⟩
    · exact absurd hj (by simp)
  have h := join_calls (some ⟨g, 0, none⟩) 3 3 [l1, l2, l3] _ (by omega) (by simp; omega) hr
  simpa [List.append_assoc] using h

set_option maxRecDepth 100000 in
set_option maxHeartbeats 400000 in
theorem ending_calls (n : Nat) (w : World) (hn : n ≤ 1000000000000) :
    Calls Tryd.prog 50 #[.int .i64 (n : Int)] w (Mk w (tail n)) := by
  obtain ⟨z, hz⟩ : ∃ z, z = (64 - (n + 9) % 64) % 64 := ⟨_, rfl⟩
  have hz64 : z < 64 := by omega
  obtain ⟨u, hu⟩ : ∃ u, u = (n + 9) % 64 := ⟨_, rfl⟩
  have hu64 : u < 64 := by omega
  have e1 : ((n : Int) + 1 + 8).tmod 64 = (u : Int) := by rw [Int.tmod_eq_emod_of_nonneg (by omega)]; omega
  have e2 : ((64 : Int) - (u : Int)).tmod 64 = (z : Int) := by rw [Int.tmod_eq_emod_of_nonneg (by omega)]; omega
  obtain ⟨N8, h8⟩ : ∃ N8 : Nat, N8 = 8 * n := ⟨_, rfl⟩
  have e3 : IntKind.u64.wrap (8 * (n : Int)) = (N8 : Int) := by rw [IntKind.wrap_u64]; omega
  have e4 : IntKind.u64.wrap (n : Int) = (n : Int) := by rw [IntKind.wrap_u64]; omega
  have hmk := fun W => run_mk8 z (by omega) W
  have H := Lib.hid (And.intro hz (And.intro hu h8))
  clear hz hu h8
  go_enter Tryd.func50, Tryd.ntmps50
  go_wp2
  have hzz : z + 9 ≤ 100000 := by omega
  go_region_with (first
    | (go_at_call 51; refine (great_calls N8 8 8 (by decide) _).mono ?_; rintro e' w' ⟨A, k, c, rfl, hown, hbel⟩; have hk := hown.len)
    | (go_at_call 54
       refine (join3_calls _ _ (by simp) _ _ _ _ _ _ _ _ _ [128] (List.replicate z 0) (great N8 8) (rd_one (t := 5) ?_ rfl) (rd_zeros (t := 5) ?_) ?_ ?_).mono ?_
       · first | exact Blk.new' _ _ _ _ (by simp) | exact (Blk.new' _ _ _ _ (by simp)).drew | exact (Blk.new' _ _ _ _ (by simp)).alloc _ | exact Blk.below (Blk.drew (Blk.new' _ _ _ _ (by simp))) hbel (by simp) | exact Blk.below (Blk.drew ((Blk.new' _ _ _ _ (by simp)).alloc _)) hbel (by simp; omega) | exact (Blk.below (Blk.drew (Blk.new' _ _ _ _ (by simp))) hbel (by simp)).alloc _
       · first | exact Blk.new' _ _ _ _ (by simp) | exact (Blk.new' _ _ _ _ (by simp)).drew | exact (Blk.new' _ _ _ _ (by simp)).alloc _ | exact Blk.below (Blk.drew (Blk.new' _ _ _ _ (by simp))) hbel (by simp) | exact Blk.below (Blk.drew ((Blk.new' _ _ _ _ (by simp)).alloc _)) hbel (by simp; omega) | exact (Blk.below (Blk.drew (Blk.new' _ _ _ _ (by simp))) hbel (by simp)).alloc _
       · first | exact hown.rd | exact hown.rd.alloc _ | exact (hown.rd.alloc _).alloc _
       · simp at hk; omega
       rintro e' w9 ⟨A9, k9, c9, rfl, hown9, hbel9⟩))
  all_goals go_wp2
  all_goals go_ret
  all_goals rw [show tail n = [128] ++ List.replicate z 0 ++ great N8 8 from by unfold tail; rw [H.out.1, H.out.2.2]]
  all_goals refine Mk.down ⟨_, _, _, rfl, hown9, hbel9⟩ ?_
  all_goals have hB' : Below w.heap.size w w' := below_of hbel (by first | exact below_drew (Below.refl _ w) | exact below_drew ((Below.refl _ w).alloc (Nat.le_refl _) _) | exact below_drew (((Below.refl _ w).alloc (Nat.le_refl _) _).alloc (by simp) _))
  all_goals have hsz' := hB'.size
  all_goals first | exact hB'.alloc hsz' _ | exact (hB'.alloc hsz' _).alloc (by simp; omega) _ | exact ((hB'.alloc hsz' _).alloc (by simp; omega) _).alloc (by simp; omega) _
end Go.Proofs.YthkkllcpogagiaaDoor

/- The contract of Hasher.Sum: the hash of all bytes written. -/
namespace Go.Proofs.YthkkllcpogagiaaDoor
open Go.RowKit
set_option linter.unusedVariables false
attribute [local go_sem ↓] Go.wp_at_zero Go.wp_at_succ

/-- What stands in the hash while its words are laid. -/
def hpart (S : List Nat) (t : Nat) : List UInt8 := ((S.take t).map fun x => great x 4).flatten ++ List.replicate (32 - 4 * t) 0
set_option maxRecDepth 100000 in
theorem flat4 (S : List Nat) : ((S.map fun x => great x 4).flatten).length = 4 * S.length := by
  induction S with
  | nil => rfl
  | cons x S ih => simp [ih]; omega
set_option maxRecDepth 100000 in
theorem hpart_len (S : List Nat) (t : Nat) (hS : S.length = 8) (ht : t ≤ 8) : (hpart S t).length = 32 := by
  unfold hpart
  rw [List.length_append, flat4, List.length_take, List.length_replicate, hS]
  omega
set_option maxRecDepth 100000 in
theorem hpart_step (S : List Nat) (t : Nat) (hS : S.length = 8) (ht : t < 8) : over ((hpart S t).map B8) (4 * t) ((great (S.getD t 0) 4).map B8) = (hpart S (t + 1)).map B8 := by
  have hl : ((S.take t).map fun x => great x 4).flatten.length = 4 * t := by rw [flat4, List.length_take, hS]; omega
  have e1 : ((hpart S t).map B8).take (4 * t) = (((S.take t).map fun x => great x 4).flatten).map B8 := by
    rw [← List.map_take]
    unfold hpart
    rw [List.take_append_of_le_length (by omega), List.take_of_length_le (by omega)]
  have e2 : ((hpart S t).map B8).drop (4 * t + ((great (S.getD t 0) 4).map B8).length) = (List.replicate (32 - 4 * (t + 1)) 0).map B8 := by
    rw [← List.map_drop, List.length_map, great_len]
    unfold hpart
    rw [List.drop_append, List.drop_of_length_le (by omega), List.nil_append, hl, List.drop_replicate]
    congr 2
    omega
  unfold over
  rw [e1, e2]
  conv => rhs; unfold hpart
  have e3 : S.take (t + 1) = S.take t ++ [S.getD t 0] := by
    rw [List.take_succ_eq_append_getElem (show t < S.length by omega)]
    simp [List.getD, List.getElem?_eq_getElem (show t < S.length by omega)]
  rw [e3, List.map_append (l₁ := S.take t), List.flatten_append]
  simp only [List.map_append, List.map_cons, List.map_nil, List.flatten_cons, List.flatten_nil, List.append_nil, List.append_assoc]
set_option maxRecDepth 100000 in
theorem hpart_all (s : St) : hpart s.list 8 = s.bytes := by
  unfold hpart St.bytes
  rw [List.take_of_length_le (by rw [list_len]; omega)]
  simp
set_option maxRecDepth 100000 in
theorem own_ge {w : World} {base n c g off : Nat} {A : Option Addr} {l : List UInt8} (h : Own w base A n c l) (hA : A = some ⟨g, off, none⟩) (hn : 0 < n) : base ≤ g ∧ off = 0 ∧ n ≤ c := by
  obtain ⟨hl, h1, h | ⟨g', cap, cur, hv, hb, _, hc, _⟩⟩ := h
  · have := h.2
    omega
  · rw [hA] at hv
    injection hv with e1 e2 e3
    injection e1 with e4
    injection e4 with e5 e6
    subst e5 e6
    exact ⟨hb, rfl, by omega⟩
set_option maxRecDepth 100000 in
theorem great4_calls (x : Nat) (w : World) : Calls Tryd.prog 51 #[.int .u64 (x : Int), .int .i64 4] w fun e w' =>
    ∃ ga c, e = .returned (.slice (some ⟨ga, 0, none⟩) 4 c) ∧ w.heap.size ≤ ga ∧ Rd w' (some ⟨ga, 0, none⟩) 4 (great x 4) ∧ Below w.heap.size w w' := by
  refine (great_calls x 4 4 (by decide) w).mono ?_
  rintro e w' ⟨A, n, c, rfl, ho, hb⟩
  have hn := ho.len
  rw [great_len] at hn
  subst hn
  obtain ⟨g, off, rfl, _, _⟩ := ho.rd.2 (by omega)
  obtain ⟨h1, rfl, _⟩ := own_ge ho rfl (by omega)
  exact ⟨g, c, rfl, h1, ho.rd, hb⟩
set_option maxRecDepth 100000 in
theorem fin_lt (l : List UInt8) (t : Nat) : (fin l).list.getD t 0 < 4294967296 := by
  have h := chain_ok h0 (l ++ tail l.length) ((l ++ tail l.length).length / 64) h0_ok
  rw [List.getD_eq_getElem?_getD]
  cases hx : (fin l).list[t]? with
  | none => simp
  | some x => exact h x (List.mem_of_getElem? hx)
set_option maxRecDepth 100000 in
theorem vals_at (s : St) (t : Nat) (ht : t < 8) : s.vals[t]? = some (.int .u32 (s.list.getD t 0 : Int)) := map_at s.list t ht

set_option maxRecDepth 100000 in
set_option maxHeartbeats 1000000 in
theorem hsum_calls (w : World) (b : Nat) (l : List UInt8) (hH : Hs w b l) (hT : Tab w) (hn : l.length ≤ 100000000000) :
    Calls Tryd.prog 46 #[.pointer (some ⟨b, 0, none⟩)] w (Ret w (.agg ((sha l).map B8).toArray)) := by
  obtain ⟨B, hB, hd, hb⟩ := hH
  obtain ⟨V, hV⟩ : ∃ V, V = hcells (chain h0 l (l.length / 64)) B l.length := ⟨_, rfl⟩
  have hVl : V.length = 73 := by rw [hV]; exact hcells_len _ _ _ hB
  have hV1 : ∀ v ∈ V, v.oneCell' = true := by rw [hV]; exact hcells_one _ _ _
  have hVt : V[72]? = some (.int .i64 (l.length : Int)) := by rw [hV]; exact hcells_total _ _ _ hB
  rw [← hV] at hb
  obtain ⟨N, hN⟩ : ∃ N, N = l.length := ⟨_, rfl⟩
  rw [← hN] at hVt hn
  have hiV : (Tryd.prog.info? 96).map (·.size) = some V.length := by rw [hVl]; exact iH
  have hblt := hb.lt
  have hz0 := (zero_of_info infoH).1
  obtain ⟨z, hz⟩ : ∃ z, z = zh := ⟨_, rfl⟩
  rw [← hz] at hz0
  have hzs : z.size = 73 := by rw [hz]; rfl
  have ct : w.cell? ⟨b, 72, none⟩ = some (.int .i64 (N : Int)) := by rw [hb.cell, hVt]
  have HB := Lib.hid hb
  have HV := Lib.hid (And.intro hV hN)
  have HI := Lib.hid hiV
  have HVL := Lib.hid hVl
  have HD := Lib.hid hd
  clear hb hV hN hiV hVl hd hz
  go_enter Tryd.func46, Tryd.ntmps46
  go_wp2_with (first
    | (refine at_load 96 (.tmp 8) ?_; refine wpList_load_mid rfl 96 (.tmp 8) rfl b 0 rfl V _ (HB.out.alloc _).range Tryd.underlying96 rfl HI.out ?_)
    | (refine at_store 96 (.tmp 3) (.tmp 9) ?_; refine wpList_store_blk rfl 96 (.tmp 3) (.tmp 9) rfl (w.heap.size + 1) _ V _ rfl rfl (Blk.new' (w.alloc _) _ _ (w.heap.size + 1) (by simp)) (by rw [HVL.out, Array.length_toList, hzs]) HI.out hV1 ?_; intro w1 hb1 ho1
       have hbw1 : Blk w1 b V 96 := ho1.blk ((HB.out.alloc _).alloc _) (by omega)
       have ct1 : w1.cell? ⟨b, 72, none⟩ = some (.int .i64 (N : Int)) := by rw [hbw1.cell, hVt]
       have hB1 : Below w.heap.size w w1 := (((Below.refl _ w).alloc (Nat.le_refl _) _).alloc (by simp) _).trans (ho1.below (by omega))
       have hz32 : Blk w1 w.heap.size ((List.replicate 32 (0 : UInt8)).map B8) 42 := ho1.blk ((Blk.new w _ _).alloc _) (by omega)
       have hHe : Hs w1 (w.heap.size + 1) l := ⟨B, hB, HD.out, by rw [← HV.out.1]; exact hb1⟩
       have hs1 : w.heap.size + 2 ≤ w1.heap.size := by rw [ho1.size]; simp
       have J1 := Lib.hid hB1
       have J2 := Lib.hid hz32
       have J3 := Lib.hid hHe
       have J4 := Lib.hid hs1
       clear hbw1 hB1 hz32 hHe hs1 hb1 ho1)
    | (go_at_call 50; refine (ending_calls N _ (by omega)).mono ?_; rintro e' w2 ⟨A, k, c, rfl, hown, hbel2⟩)
    | (go_at_call 45
       have hkl := hown.len
       have hk0 : 0 < k := by rw [← hkl, tail_len]; omega
       have hs1 := J4.out
       have hs2 := hbel2.size
       have hB2 : Below w.heap.size w w2 := J1.out.trans (hbel2.mono (by omega))
       have hrx : RdX w2 (w.heap.size + 1) A k (tail N) := RdX.of hown.rd (fun g off e hn0 => by have := (own_ge hown e hn0).1; omega)
       have hkc : k ≤ c := by obtain ⟨g, off, e, _, _⟩ := hown.rd.2 hk0; exact (own_ge hown e hk0).2.2
       have hlt := hT.lt
       refine (write_calls block_calls w2 (w.heap.size + 1) l (tail N) A k c (J3.out.below hbel2 (by omega)) hrx (hT.all hB2) (by omega) (by omega) (by rw [← hkl, tail_len, ← HV.out.2]; omega) hkc).mono ?_
       rintro e' w3 ⟨rfl, hHs3, hbes3⟩
       have hB3 : Below w.heap.size w w3 := hB2.trans (hbes3.below (by omega) (by omega))
       have hz3 : Blk w3 w.heap.size ((List.replicate 32 (0 : UInt8)).map B8) 42 := (hbes3.block _ (by omega) (by omega)).trans (J2.out.below hbel2 (by omega))
       obtain ⟨S, hS⟩ : ∃ S, S = fin l := ⟨_, rfl⟩
       have hst3 : w3.rangeAt (w.heap.size + 1) 0 S.vals := by
         obtain ⟨B3, _, _, hb3⟩ := hHs3
         have := state_range hb3
         rw [HV.out.2] at this
         rw [hS]
         exact this
       have K1 := Lib.hid hB3
       have K2 := Lib.hid hz3
       have K3 := Lib.hid hst3
       have K4 := Lib.hid hS
       have K5 := Lib.hid (show w.heap.size + 2 ≤ w3.heap.size from Nat.le_trans (by omega) hbes3.size)
       clear hkl hk0 hs1 hs2 hB2 hrx hkc hlt hB3 hz3 hS hst3 hHs3 hbes3 hown hbel2 ct1)
    | (refine at_load 83 (.tmp 16) ?_; refine wpList_load_mid rfl 83 (.tmp 16) rfl (w.heap.size + 1) 0 rfl S.vals _ (World.rangeAt_alloc K3.out _) Tryd.underlying83 rfl i8 ?_))
  go_loopw [18] (fun i wr => ∃ t : Nat, t ≤ 8 ∧ i = .int .i64 t ∧ Blk wr w3.heap.size ((hpart S.list t).map B8) 42 ∧ Blk wr w.heap.size ((List.replicate 32 (0 : UInt8)).map B8) 42 ∧ Below w.heap.size w wr) (fun i _ => 8 - (intOf i).toNat)
  case atStart =>
    have h5 := K5.out
    exact ⟨0, by omega, rfl, Blk.new w3 _ _, K2.out.alloc _, K1.out.alloc (by omega) _⟩
  case round =>
    obtain ⟨t, ht, rfl, hb4, hb2, hbl⟩ := hrel
    have h5 := K5.out
    by_cases hlt : t < 8
    · obtain ⟨x, hx⟩ : ∃ x, x = S.list.getD t 0 := ⟨_, rfl⟩
      have hix := fun W => run_idx (P := Tryd.prog) 83 82 8 Tryd.underlying83 .u32 Tryd.underlying82 (by kernel_rfl) S.vals t (.int .u32 (x : Int)) hlt (by rw [hx]; exact vals_at S t hlt) W
      obtain ⟨q, hq⟩ : ∃ q, q = 4 * t := ⟨_, rfl⟩
      have hv : IntKind.i64.wrap (4 * (t : Int)) = (q : Int) := by rw [IntKind.wrap_i64]; omega
      have hsl := fun W => run_sl_l (P := Tryd.prog) 42 5 32 Tryd.underlying42 size8 w3.heap.size 0 q (q : Int) rfl (by omega) W
      rw [Nat.zero_add] at hsl
      have hlen4 : ((great x 4).map B8).length = Nat.min 4 (32 - q) := by rw [List.length_map, great_len]; exact (Nat.min_eq_left (by omega)).symm
      have hfit : q + ((great x 4).map B8).length ≤ ((hpart S.list t).map B8).length := by rw [List.length_map, great_len, List.length_map, hpart_len _ _ (list_len S) ht]; omega
      have hB4 : Hid (∀ w', Below wr.drew.heap.size wr.drew w' → Blk w' w3.heap.size ((hpart S.list t).map B8) 42) := Lib.hid fun w' hb => Blk.below (w := wr.drew) hb4 hb hb4.lt
      have FIN : Hid (∀ w' w5, Below wr.drew.heap.size wr.drew w' → Blk w5 w3.heap.size (over ((hpart S.list t).map B8) q ((great x 4).map B8)) 42 → Only w3.heap.size w' w5 → ∃ t_1 : Nat, t_1 ≤ 8 ∧ Value.int .i64 ((t : Int) + 1) = .int .i64 (t_1 : Int) ∧ Blk w5 w3.heap.size ((hpart S.list t_1).map B8) 42 ∧ Blk w5 w.heap.size ((List.replicate 32 (0 : UInt8)).map B8) 42 ∧ Below w.heap.size w w5) := Lib.hid (by
        intro w' w5 hb hb5 ho5
        rw [hx, hq, hpart_step _ _ (list_len S) hlt] at hb5
        have hbw : Below wr.heap.size wr w' := ⟨hb.os, hb.tape, hb.output, hb.size, hb.block⟩
        exact ⟨t + 1, by omega, by go_num, hb5, ho5.blk (hb2.below hbw hb2.lt) (by omega), (hbl.trans (hbw.mono hbl.size)).trans (ho5.below (by omega))⟩)
      have L1 := Lib.hid hlen4
      have L2 := Lib.hid hfit
      have bt : (t : Int) < 8 := by omega
      have hxc : IntKind.u64.wrap (x : Int) = (x : Int) := by
        have : x < 4294967296 := by rw [hx, K4.out]; exact fin_lt l t
        rw [IntKind.wrap_u64]; omega
      clear hb4 hb2 hx hq hlen4 hfit
      go_wp2
      go_region_law (first
        | (refine step_copy_blk rfl _ _ 28 28 rfl 5 Tryd.underlying28 size8 w3.heap.size q ⟨ga, 0, none⟩ (32 - q) (32 - q) 4 c4 rfl rfl _ 42 (hB4.out w' hbel') ((great x 4).map B8) L1.out (src_of_rd hrd4 (by omega)) L2.out (b8_one _) ?_; intro w5 hb5 ho5)
        | (go_simp; go_at_call 51; refine (great4_calls x _).mono ?_; rintro e' w' ⟨ga, c4, rfl, hga, hrd4, hbel'⟩))
      all_goals go_wp2
      all_goals go_roundw
      all_goals first | exact FIN.out w' w5 hbel' hb5 ho5 | (simp [intOf]; omega)
    · have e : t = 8 := by omega
      subst e
      rw [hpart_all] at hb4
      obtain ⟨V9, hV9⟩ : ∃ V, V = S.bytes.map B8 := ⟨_, rfl⟩
      have hV9l : V9.length = 32 := by rw [hV9, List.length_map, St.bytes_len]
      have hV91 : ∀ v ∈ V9, v.oneCell' = true := by rw [hV9]; exact b8_one _
      rw [← hV9] at hb4
      have hi9 : (Tryd.prog.info? 42).map (·.size) = some V9.length := by rw [hV9l]; exact i32
      have M1 := Lib.hid hb4
      have M2 := Lib.hid hb2
      have M3 := Lib.hid hV9
      have M4 := Lib.hid hV9l
      have M5 := Lib.hid hi9
      clear hb4 hb2 hV9 hV9l hi9
      go_wp2_with (first
        | (refine at_load 42 (.tmp 4) ?_; refine wpList_load_mid rfl 42 (.tmp 4) rfl w3.heap.size 0 rfl V9 _ M1.out.range Tryd.underlying42 rfl M5.out ?_)
        | (refine at_store 42 (.tmp 2) (.tmp 30) ?_; refine wpList_store_blk rfl 42 (.tmp 2) (.tmp 30) rfl w.heap.size _ V9 _ rfl rfl M2.out (by rw [M4.out]; simp) M5.out hV91 ?_; intro w9 hb9 ho9))
      refine bodyPost_ret (v := .agg V9.toArray) ?_ rfl ⟨by rw [M3.out, K4.out]; rfl, hbl.trans (ho9.below (Nat.le_refl _))⟩
      exact results_cell_row Tryd.results46 _ _ w.heap.size 42 _ (0, 0) _ (by rfl) hb9 Tryd.underlying42 rfl (by rw [List.size_toArray]; exact M5.out)
end Go.Proofs.YthkkllcpogagiaaDoor

/- Words for lists of byte slices, each not longer than its capacity. -/
namespace Go.Proofs.YthkkllcpogagiaaDoor
open Go.RowKit
set_option linter.unusedVariables false

/-- The slice of n byte slices that begins at A holds the byte lists L. -/
def RdM (w : World) (A : Option Addr) (n : Nat) (L : List (List UInt8)) : Prop :=
  L.length = n ∧ (0 < n → ∃ b off, A = some ⟨b, off, none⟩ ∧ b < w.heap.size ∧ ∀ j (h : j < L.length), ∃ A' m c', w.cell? ⟨b, off + j, none⟩ = some (.slice A' m c') ∧ m ≤ c' ∧ c' ≤ maxLen ∧ Rd w A' m L[j])
set_option maxRecDepth 100000 in
theorem RdM.len {w : World} {A : Option Addr} {n : Nat} {L : List (List UInt8)} (h : RdM w A n L) : L.length = n := h.1
set_option maxRecDepth 100000 in
theorem RdM.at_ {w : World} {A : Option Addr} {n : Nat} {L : List (List UInt8)} (h : RdM w A n L) {k : Nat} (hk : k < n) :
    ∃ b off A' m c', ∃ hl : k < L.length, A = some ⟨b, off, none⟩ ∧ w.cell? ⟨b, off + k, none⟩ = some (.slice A' m c') ∧ m ≤ c' ∧ c' ≤ maxLen ∧ Rd w A' m L[k] := by
  obtain ⟨b, off, e, hb, hc⟩ := h.2 (by omega)
  have hl : k < L.length := by have := h.1; omega
  obtain ⟨A', m, c', h1, h2, h3, h4⟩ := hc k hl
  exact ⟨b, off, A', m, c', hl, e, h1, h2, h3, h4⟩
set_option maxRecDepth 100000 in
theorem RdM.below {w w' : World} {A : Option Addr} {n : Nat} {L : List (List UInt8)} (h : RdM w A n L) (hb : Below w.heap.size w w') : RdM w' A n L :=
  ⟨h.1, fun hn => by
    obtain ⟨b, off, e, hlt, hc⟩ := h.2 hn
    have hs := hb.size
    refine ⟨b, off, e, by omega, fun j hj => ?_⟩
    obtain ⟨A', m, c', h1, h2, h3, h4⟩ := hc j hj
    exact ⟨A', m, c', (hb.cell (p := ⟨b, off + j, none⟩) hlt).trans h1, h2, h3, h4.below hb⟩⟩
set_option maxRecDepth 100000 in
theorem rdm_rows {w : World} {a : Addr} {len cap : Nat} {A : Nat → Option Addr} {L C : Nat → Nat} {Z : Nat → List Int} (hl : len ≤ cap)
    (hrow : ∀ r, r < cap → w.cell? (a.add r) = some (.slice (A r) (L r) (C r)) ∧ L r ≤ C r ∧ C r ≤ maxLen ∧ (Z r).length = C r ∧ (∀ n ∈ Z r, (Lit.int .u8 n).wf = true) ∧ (A r = none → C r = 0) ∧
        ∀ a', A r = some a' → 0 ≤ a'.block ∧ ∀ c, c < C r → w.cell? (a'.add c) = some (.int .u8 ((Z r).getD c 0))) : ∃ LL, RdM w (some a) len LL := by
  refine ⟨(List.range len).map fun r => bytesOf (Z r) (L r), by simp, fun hn => ?_⟩
  obtain ⟨b, off, spot⟩ := a
  have hc := (hrow 0 (by omega)).1
  have hspot : spot = none := by simpa [Addr.add] using World.cell?_spot hc
  subst hspot
  refine ⟨b, off, rfl, lt_of_cell (a := (⟨b, off, none⟩ : Addr).add 0) hc, fun j hj => ?_⟩
  have hj' : j < len := by simpa using hj
  obtain ⟨h1, h2, h3, h4, h5, h6, h7⟩ := hrow j (by omega)
  have hp : (⟨b, off, none⟩ : Addr).add j = ⟨b, off + j, none⟩ := by unfold Addr.add; split <;> simp_all
  refine ⟨A j, L j, C j, by rw [← hp]; exact h1, h2, h3, ?_⟩
  rw [List.getElem_map, List.getElem_range]
  cases hA : A j with
  | none =>
    have h0 := h6 hA
    have hL : L j = 0 := by omega
    rw [hL]
    exact Rd.nil _ _
  | some x => exact rd_ints_at (fun i hi => (h7 x hA).2 i (by omega)) h2 h4 h5
set_option maxRecDepth 100000 in
/-- One byte slice, laid out anew as a list of one. -/
theorem rdm_one (W : World) (g : Nat) (hg : W.heap.size = g) (A : Option Addr) (n c : Nat) (l : List UInt8) (t : TypeId) (h : Rd W A n l) (hc : n ≤ c) (hm : c ≤ maxLen) : RdM (W.alloc (.cells #[.slice A n c] t)) (some ⟨g, 0, none⟩) 1 [l] := by
  have hb := Blk.new' W #[.slice A n c] t g hg
  refine ⟨rfl, fun _ => ⟨g, 0, rfl, hb.lt, fun j hj => ?_⟩⟩
  have : j = 0 := by simp at hj; omega
  subst this
  exact ⟨A, n, c, hb.cell 0, hc, hm, h.below ((Below.refl _ W).alloc (Nat.le_refl _) _)⟩
end Go.Proofs.YthkkllcpogagiaaDoor

/- The contract of sha2.Sum: the hash of the concatenation of its arguments. -/
namespace Go.Proofs.YthkkllcpogagiaaDoor
open Go.RowKit
set_option linter.unusedVariables false

set_option maxRecDepth 100000 in
set_option maxHeartbeats 1000000 in
theorem sum_calls (w : World) (A : Option Addr) (n c : Nat) (L : List (List UInt8)) (hR : RdM w A n L) (hT : Tab w) (hn : n ≤ 1000000000) (hf : L.flatten.length ≤ 10000000000) :
    Calls Tryd.prog 39 #[.slice A n c] w (Ret w (.agg ((sha L.flatten).map B8).toArray)) := by
  have HR := Lib.hid hR
  have HT := Lib.hid hT
  have HL := Lib.hid hR.len
  clear hR hT
  have hz32 := Lib.hid (Blk.new w (((List.replicate 32 (0 : UInt8)).map B8).toArray) 42)
  have hB0 := Lib.hid ((Below.refl w.heap.size w).alloc (Nat.le_refl _) (.cells (((List.replicate 32 (0 : UInt8)).map B8).toArray) 42))
  go_enter Tryd.func39, Tryd.ntmps39
  go_wp2_with (first
    | (go_at_call 44
       refine (new_calls _ (HT.out.all hB0.out)).mono ?_
       rintro e' w1 ⟨b, rfl, hbge, hH, hbel1⟩
       have hs1 : w.heap.size < w1.heap.size := Nat.lt_of_lt_of_le (by simp) hbel1.size
       have hb1 : w.heap.size < b := Nat.lt_of_lt_of_le (by simp) hbge
       have J1 : Hid (Blk w1 w.heap.size ((List.replicate 32 (0 : UInt8)).map B8) 42) := Lib.hid (hz32.out.below hbel1 (by simp))
       have J2 : Hid (Below w.heap.size w w1) := Lib.hid (hB0.out.trans (hbel1.mono (by simp)))
       have J3 := Lib.hid hH
       clear hH hbel1 hbge))
  go_loopw [9] (fun i wr => ∃ t : Nat, t ≤ n ∧ i = .int .i64 t ∧ Hs wr b (L.take t).flatten ∧ Blk wr w.heap.size ((List.replicate 32 (0 : UInt8)).map B8) 42 ∧ Below w.heap.size w wr) (fun i _ => n - (intOf i).toNat)
  case atStart => exact ⟨0, Nat.zero_le _, rfl, J3.out, J1.out, J2.out⟩
  case round =>
    obtain ⟨t, ht, rfl, hHs, hb0, hbl⟩ := hrel
    have hlt2 := HT.out.lt
    have hgs := hbl.size
    by_cases hlt : t < n
    · obtain ⟨g, off, A', m, c', hl, rfl, hcell, hmc, hcm, hrd⟩ := (HR.out.below hbl).at_ hlt
      have hwl : ∀ g' off', A' = some ⟨g', off', none⟩ → 0 < m → g' ≠ b := by
        intro g' off' e h0
        obtain ⟨g2, off2, A2, m2, c2, hl2, e2, hc2, _, _, hr2⟩ := HR.out.at_ (k := t) hlt
        cases e2
        obtain ⟨b3, o3, e3, hb3, _⟩ := HR.out.2 (by omega)
        cases e3
        have hcw : wr.cell? ⟨g, off + t, none⟩ = w.cell? ⟨g, off + t, none⟩ := hbl.cell (p := ⟨g, off + t, none⟩) hb3
        rw [hcw, hc2] at hcell
        cases hcell
        obtain ⟨b4, o4, e4, hb4, _⟩ := hr2.2 h0
        rw [e] at e4
        cases e4
        omega
      have hfl : (L.take t).flatten.length + m ≤ 1000000000000 := by
        have h1 := flat_le L (t + 1)
        rw [flat_take L t hl, List.length_append, hrd.len] at h1
        omega
      have HW := Lib.hid (write_calls block_calls wr b (L.take t).flatten L[t] A' m c' hHs (RdX.of hrd hwl) (HT.out.all hbl) (by omega) (by omega) hfl hmc)
      have hbt : (t : Int) < (n : Int) := by omega
      have H1 := Lib.hid hb0
      have H2 := Lib.hid hbl
      have H3 := Lib.hid (flat_take L t hl)
      clear hHs hrd hwl hfl hb0 hbl
      go_wp2_with (go_at_call 45; refine HW.out.mono ?_; rintro e' w3 ⟨rfl, hHs3, hbes3⟩)
      go_roundw
      case rel =>
        have h2 := H2.out
        have h1l := H1.out.lt
        rw [← H3.out] at hHs3
        exact ⟨t + 1, by omega, by go_num, hHs3, (hbes3.block _ (by omega) (by omega)).trans H1.out, h2.trans (hbes3.below (by omega) (by omega))⟩
      case measure => simp [intOf]; omega
    · have e : t = n := by omega
      subst e
      rw [List.take_of_length_le (by rw [HL.out]; exact Nat.le_refl _)] at hHs
      have HS := Lib.hid (hsum_calls wr b L.flatten hHs (HT.out.all hbl) (by omega))
      obtain ⟨V, hV⟩ : ∃ V, V = (sha L.flatten).map B8 := ⟨_, rfl⟩
      have hVl : V.length = 32 := by rw [hV, List.length_map, sha_len]
      have hV1 : ∀ v ∈ V, v.oneCell' = true := by rw [hV]; exact b8_one _
      have hiV : (Tryd.prog.info? 42).map (·.size) = some V.length := by rw [hVl]; exact i32
      rw [← hV] at HS
      have H1 := Lib.hid hb0
      have H2 := Lib.hid hbl
      have H3 := Lib.hid hV
      have H4 := Lib.hid hiV
      have H5 := Lib.hid hVl
      clear hHs hb0 hbl hV hiV hVl
      go_wp2_with (first
        | (go_at_call 46; refine HS.out.mono ?_; rintro e' w5 ⟨rfl, hbel5⟩)
        | (refine at_store 42 (.tmp 2) (.tmp 18) ?_; refine wpList_store_blk rfl 42 (.tmp 2) (.tmp 18) rfl w.heap.size _ V _ rfl rfl (H1.out.below hbel5 H1.out.lt) (by rw [H5.out]; simp) H4.out hV1 ?_; intro w9 hb9 ho9))
      refine bodyPost_ret (v := .agg V.toArray) ?_ rfl ⟨by rw [H3.out], (H2.out.trans (hbel5.mono H2.out.size)).trans (ho9.below (Nat.le_refl _))⟩
      exact results_cell_row Tryd.results39 _ _ w.heap.size 42 _ (0, 0) _ (by rfl) hb9 Tryd.underlying42 rfl (by rw [List.size_toArray]; exact H4.out)
end Go.Proofs.YthkkllcpogagiaaDoor
