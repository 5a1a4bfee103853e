/- The contract of sha2.ending: what follows a text. -/
import Derived.Test.YtfnlclooneanaaaDoorShaX
import Derived.Test.YtfnlclooneanaaaDoorGreat
import Derived.Test.YtfnlclooneanaaaDoorJoinC
import Derived.Deep.RegionWith
import Derived.Deep.DrawnRows
import Derived.Deep.Onto
namespace Go.Proofs.YtfnlclooneanaaaDoor
open Go.RowKit
set_option linter.unusedVariables false
attribute [local go_sem ↓] Go.wp_at_zero Go.wp_at_succ

theorem Mk.down {w W : World} {l : List UInt8} {e : Ending} {w' : World} (h : Mk W l e w') (hb : Below w.heap.size w W) : Mk w l e w' := by
  obtain ⟨A, n, c, he, ho, hbl⟩ := h
  exact ⟨A, n, c, he, ⟨ho.1, ho.2.mono hb.size⟩, hb.trans (hbl.mono hb.size)⟩
theorem below_of {w W0 w' : World} (h : Below W0.heap.size W0 w') (h0 : Below w.heap.size w W0) : Below w.heap.size w w' := h0.trans (h.mono h0.size)
theorem below_drew {B : Nat} {w X : World} (h : Below B w X) : Below B w X.drew := ⟨h.os, h.tape, h.output, h.size, h.block⟩
theorem Blk.drew {w : World} {g : Nat} {cs : List Value} {t : TypeId} (h : Blk w g cs t) : Blk w.drew g cs t := h
theorem Rd.alloc {w : World} {A : Option Addr} {n : Nat} {l : List UInt8} (h : Rd w A n l) (o : Obj) : Rd (w.alloc o) A n l := h.below ((Below.refl _ w).alloc (Nat.le_refl _) o)
theorem Rd.drew {w : World} {A : Option Addr} {n : Nat} {l : List UInt8} (h : Rd w A n l) : Rd w.drew A n l := h
theorem rd_one {w : World} {g : Nat} {t : TypeId} {z : Int} {u : UInt8} (h : Blk w g [.int .u8 z] t) (hz : z = (u.toNat : Int)) : Rd w (some ⟨g, 0, none⟩) 1 [u] := by
  subst hz
  exact h.rd 0 1 [u] rfl fun j hj => by
    have : j = 0 := by simp at hj; omega
    subst this
    rfl
theorem rd_zeros {w : World} {g : Nat} {t : TypeId} {z : Nat} (h : Blk w g (madeCells #[.int .u8 0] z).toList t) : Rd w (some ⟨g, 0, none⟩) z (List.replicate z 0) := by
  rw [toList_madeCells_one] at h
  refine h.rd 0 z _ (by simp) fun j hj => ?_
  simp at hj
  simp [hj]
/-- octet.Join of three byte slices that are laid out anew. -/
theorem join3_calls (W : World) (g : Nat) (hg : W.heap.size = g) (A1 A2 A3 : Option Addr) (n1 n2 n3 c1 c2 c3 : Nat) (l1 l2 l3 : List UInt8) (h1 : Rd W A1 n1 l1) (h2 : Rd W A2 n2 l2) (h3 : Rd W A3 n3 l3) (hs : n1 + n2 + n3 ≤ 100000) :
    Calls Tryd.prog 29 #[.slice (some ⟨g, 0, none⟩) 3 3] (W.alloc (.cells #[.slice A1 n1 c1, .slice A2 n2 c2, .slice A3 n3 c3] 22))
      (Mk (W.alloc (.cells #[.slice A1 n1 c1, .slice A2 n2 c2, .slice A3 n3 c3] 22)) (l1 ++ l2 ++ l3)) := by
  have hb := Blk.new' W #[.slice A1 n1 c1, .slice A2 n2 c2, .slice A3 n3 c3] 22 g hg
  have e1 := h1.len
  have e2 := h2.len
  have e3 := h3.len
  have hr : RdL (W.alloc (.cells #[.slice A1 n1 c1, .slice A2 n2 c2, .slice A3 n3 c3] 22)) (some ⟨g, 0, none⟩) 3 [l1, l2, l3] := by
    refine ⟨rfl, fun _ => ⟨g, 0, rfl, hb.lt, fun j hj => ?_⟩⟩
    rcases j with _ | _ | _ | j
    · exact ⟨A1, n1, c1, hb.cell 0, by unfold maxLen; omega, h1.alloc _⟩
    · exact ⟨A2, n2, c2, hb.cell 1, by unfold maxLen; omega, h2.alloc _⟩
    · exact ⟨A3, n3, c3, hb.cell 2, by unfold maxLen; omega, h3.alloc _⟩
    · exact absurd hj (by simp)
  have h := join_calls (some ⟨g, 0, none⟩) 3 3 [l1, l2, l3] _ (by omega) (by simp; omega) hr
  simpa [List.append_assoc] using h

set_option maxRecDepth 100000 in
set_option maxHeartbeats 400000 in
theorem ending_calls (n : Nat) (w : World) (hn : n ≤ 1000000000000) :
    Calls Tryd.prog 25 #[.int .i64 (n : Int)] w (Mk w (tail n)) := by
  obtain ⟨z, hz⟩ : ∃ z, z = (64 - (n + 9) % 64) % 64 := ⟨_, rfl⟩
  have hz64 : z < 64 := by omega
  obtain ⟨u, hu⟩ : ∃ u, u = (n + 9) % 64 := ⟨_, rfl⟩
  have hu64 : u < 64 := by omega
  have e1 : ((n : Int) + 1 + 8).tmod 64 = (u : Int) := by rw [Int.tmod_eq_emod_of_nonneg (by omega)]; omega
  have e2 : ((64 : Int) - (u : Int)).tmod 64 = (z : Int) := by rw [Int.tmod_eq_emod_of_nonneg (by omega)]; omega
  obtain ⟨N8, h8⟩ : ∃ N8 : Nat, N8 = 8 * n := ⟨_, rfl⟩
  have e3 : IntKind.u64.wrap (8 * (n : Int)) = (N8 : Int) := by rw [IntKind.wrap_u64]; omega
  have e4 : IntKind.u64.wrap (n : Int) = (n : Int) := by rw [IntKind.wrap_u64]; omega
  have hmk := fun W => run_mk8 z (by omega) W
  have H := Lib.hid (And.intro hz (And.intro hu h8))
  clear hz hu h8
  go_enter Tryd.func25, Tryd.ntmps25
  go_wp2
  have hzz : z + 9 ≤ 100000 := by omega
  go_region_with (first
    | (go_at_call 26; refine (great_calls N8 8 8 (by decide) _).mono ?_; rintro e' w' ⟨A, k, c, rfl, hown, hbel⟩; have hk := hown.len)
    | (go_at_call 29
       refine (join3_calls _ _ (by simp) _ _ _ _ _ _ _ _ _ [128] (List.replicate z 0) (great N8 8) (rd_one (t := 5) ?_ rfl) (rd_zeros (t := 5) ?_) ?_ ?_).mono ?_
       · first | exact Blk.new' _ _ _ _ (by simp) | exact (Blk.new' _ _ _ _ (by simp)).drew | exact (Blk.new' _ _ _ _ (by simp)).alloc _ | exact Blk.below (Blk.drew (Blk.new' _ _ _ _ (by simp))) hbel (by simp) | exact Blk.below (Blk.drew ((Blk.new' _ _ _ _ (by simp)).alloc _)) hbel (by simp; omega) | exact (Blk.below (Blk.drew (Blk.new' _ _ _ _ (by simp))) hbel (by simp)).alloc _
       · first | exact Blk.new' _ _ _ _ (by simp) | exact (Blk.new' _ _ _ _ (by simp)).drew | exact (Blk.new' _ _ _ _ (by simp)).alloc _ | exact Blk.below (Blk.drew (Blk.new' _ _ _ _ (by simp))) hbel (by simp) | exact Blk.below (Blk.drew ((Blk.new' _ _ _ _ (by simp)).alloc _)) hbel (by simp; omega) | exact (Blk.below (Blk.drew (Blk.new' _ _ _ _ (by simp))) hbel (by simp)).alloc _
       · first | exact hown.rd | exact hown.rd.alloc _ | exact (hown.rd.alloc _).alloc _
       · simp at hk; omega
       rintro e' w9 ⟨A9, k9, c9, rfl, hown9, hbel9⟩))
  all_goals go_wp2
  all_goals go_ret
  all_goals rw [show tail n = [128] ++ List.replicate z 0 ++ great N8 8 from by unfold tail; rw [H.out.1, H.out.2.2]]
  all_goals refine Mk.down ⟨_, _, _, rfl, hown9, hbel9⟩ ?_
  all_goals have hB' : Below w.heap.size w w' := below_of hbel (by first | exact below_drew (Below.refl _ w) | exact below_drew ((Below.refl _ w).alloc (Nat.le_refl _) _) | exact below_drew (((Below.refl _ w).alloc (Nat.le_refl _) _).alloc (by simp) _))
  all_goals have hsz' := hB'.size
  all_goals first | exact hB'.alloc hsz' _ | exact (hB'.alloc hsz' _).alloc (by simp; omega) _ | exact ((hB'.alloc hsz' _).alloc (by simp; omega) _).alloc (by simp; omega) _
end Go.Proofs.YtfnlclooneanaaaDoor
