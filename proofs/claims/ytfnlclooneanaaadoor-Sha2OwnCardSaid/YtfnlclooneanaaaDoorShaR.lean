/- The contract of sha2.round: one round. -/
import Derived.Test.YtfnlclooneanaaaDoorShaM
import Derived.Test.YtfnlclooneanaaaDoorRight32
import Derived.Test.YtfnlclooneanaaaDoorRet
namespace Go.Proofs.YtfnlclooneanaaaDoor
open Go.RowKit

/-- A word as a cell holds it. -/
def W32 (n : Nat) : Value := .int .u32 (n : Int)
def St.arr (s : St) : Array Value := #[.int .u32 (s.a : Int), .int .u32 (s.b : Int), .int .u32 (s.c : Int), .int .u32 (s.d : Int), .int .u32 (s.e : Int), .int .u32 (s.f : Int), .int .u32 (s.g : Int), .int .u32 (s.h : Int)]
def St.vals (s : St) : List Value := s.list.map W32
theorem St.arr_eq (s : St) : s.arr = s.vals.toArray := rfl

theorem rr_calls (x k : Nat) (w : World) (hx : x < 4294967296) (hk : k < 32) :
    Calls Tryd.prog 28 #[.int .u32 (x : Int), .int .i64 (k : Int)] w (Quiet w (.int .u32 (rotr x k : Int))) := by
  have h := right32_calls x k w hx
  rw [show ((k : Int) % 32).toNat = k from by omega] at h
  exact h

theorem not32 (e : Nat) (he : e < 4294967296) : bits .xor .u32 IntKind.u32.max (e : Int) = ((4294967295 - e : Nat) : Int) := by
  rw [show IntKind.u32.max = ((4294967295 : Nat) : Int) from rfl, u32_xor_nat _ _ (by omega) he]
  congr 1
  exact nat_not32 e he

set_option maxHeartbeats 1000000 in
theorem round_calls (s : St) (kw : Nat) (w : World) (hs : s.ok) :
    Calls Tryd.prog 22 #[.agg s.arr, .int .u32 (kw : Int)] w (Ret w (.agg (s.round kw).arr)) := by
  rw [St.ok_iff] at hs
  obtain ⟨a, b, c, d, e, f, g, h'⟩ := s
  obtain ⟨ha, hb, hc, hd, he, hf, hg, hh⟩ := hs
  simp only at ha hb hc hd he hf hg hh
  unfold St.arr
  simp only
  go_enter Tryd.func22, Tryd.ntmps22
  go_wp2
  go_quiet (fail)
  go_wp2_with (go_at_call 28; refine (rr_calls _ _ _ (by assumption) (by decide)).mono ?_; rintro e' w' ⟨rfl, n, rfl⟩)
  have e1 : bits .xor .u32 (bits .xor .u32 (rotr e 6 : Int) (rotr e 11 : Int)) (rotr e 25 : Int) = (bigS e 6 11 25 : Int) := by
    rw [u32_xor_nat _ _ (rotr_lt _ _ he) (rotr_lt _ _ he), u32_xor_nat _ _ (xor_lt32 (rotr_lt _ _ he) (rotr_lt _ _ he)) (rotr_lt _ _ he)]; rfl
  have e2 : bits .xor .u32 (bits .xor .u32 (rotr a 2 : Int) (rotr a 13 : Int)) (rotr a 22 : Int) = (bigS a 2 13 22 : Int) := by
    rw [u32_xor_nat _ _ (rotr_lt _ _ ha) (rotr_lt _ _ ha), u32_xor_nat _ _ (xor_lt32 (rotr_lt _ _ ha) (rotr_lt _ _ ha)) (rotr_lt _ _ ha)]; rfl
  have e3 : bits .xor .u32 (bits .and .u32 (e : Int) (f : Int)) (bits .and .u32 (bits .xor .u32 IntKind.u32.max (e : Int)) (g : Int)) = (ch e f g : Int) := by
    rw [not32 e he, u32_and_nat _ _ he hf, u32_and_nat _ _ (by omega) hg, u32_xor_nat _ _ (and_lt32 _ he) (and_lt32 _ (by omega))]; rfl
  have e4 : bits .xor .u32 (bits .xor .u32 (bits .and .u32 (a : Int) (b : Int)) (bits .and .u32 (a : Int) (c : Int))) (bits .and .u32 (b : Int) (c : Int)) = (maj a b c : Int) := by
    rw [u32_and_nat _ _ ha hb, u32_and_nat _ _ ha hc, u32_and_nat _ _ hb hc, u32_xor_nat _ _ (and_lt32 _ ha) (and_lt32 _ ha), u32_xor_nat _ _ (xor_lt32 (and_lt32 _ ha) (and_lt32 _ ha)) (and_lt32 _ hb)]; rfl
  rw [e1, e2, e3, e4]
  clear e1 e2 e3 e4
  refine bodyPost_ret (v := .agg ((⟨a, b, c, d, e, f, g, h'⟩ : St).round kw).arr) ?_ rfl ⟨rfl, ?_⟩
  · simp [results, Tryd.results22, go_sem]
    have x1 : ((h' : Int) + (bigS e 6 11 25 : Int) + (ch e f g : Int) + (kw : Int) + ((bigS a 2 13 22 : Int) + (maj a b c : Int))) % 4294967296 = ((((h' + bigS e 6 11 25 + ch e f g + kw) % 4294967296 + (bigS a 2 13 22 + maj a b c) % 4294967296) % 4294967296 : Nat) : Int) := by omega
    have x2 : ((d : Int) + ((h' : Int) + (bigS e 6 11 25 : Int) + (ch e f g : Int) + (kw : Int))) % 4294967296 = (((d + (h' + bigS e 6 11 25 + ch e f g + kw) % 4294967296) % 4294967296 : Nat) : Int) := by omega
    rw [x1, x2]
    rfl
  · have hB : w.heap.size ≤ w.heap.size + 1 := Nat.le_succ _
    exact (((((((((below_drewN (((Below.refl _ w).alloc (Nat.le_refl _) _).alloc (by simp) _) _).setCell hB _).setCell hB _).setCell hB _).setCell hB _).setCell hB _).setCell hB _).setCell hB _).setCell hB _)
end Go.Proofs.YtfnlclooneanaaaDoor
