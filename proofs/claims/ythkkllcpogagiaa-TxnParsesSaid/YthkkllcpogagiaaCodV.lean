/- Contracts of the document's own Take of layer 6. -/
import Derived.Test.YthkkllcpogagiaaCodN
import Derived.Laws.DeepStrings4
import Derived.Deep.RegionHeld3
namespace Go.Proofs.Ythkkllcpogagiaa
open Go.RowKit
set_option linter.unusedVariables false

set_option maxRecDepth 100000 in
theorem bstr_from (l : List UInt8) (a N : Nat) (h : l.length = N) : (⟨l.toArray⟩ : ByteArray).extract a N = ⟨(l.drop a).toArray⟩ := by
  rw [ByteArray.extract_mk, List.take_of_length_le (by rw [List.length_drop]; omega)]
set_option maxRecDepth 100000 in
theorem bstr_upto (l : List UInt8) (b : Nat) : (⟨l.toArray⟩ : ByteArray).extract 0 b = ⟨(l.take b).toArray⟩ := by
  rw [ByteArray.extract_mk, List.drop_zero, Nat.sub_zero]
set_option maxRecDepth 100000 in
theorem below2 (w : World) (o1 o2 : Obj) : Below w.heap.size w ((w.alloc o1).alloc o2) := below_al (below_al (Below.refl _ w) _) _
set_option maxRecDepth 100000 in
set_option maxHeartbeats 1000000 in
theorem dtake_err (s : ByteArray) (e : Nat) (k : Int) (he : ¬ e = 0) (w : World) :
    Calls Try.prog 39 #[.agg #[.string s, .int .i64 (e : Int)], .int .i64 k] w (Ret w (.tuple #[.agg #[.string s, .int .i64 (e : Int)], .string ⟨#[]⟩])) := by
  go_enter Try.func39, Try.ntmps39
  go_wp2
  refine bodyPost_ret (v := .tuple #[.agg #[.string s, .int .i64 (e : Int)], .string ⟨#[]⟩]) (by simp [results, Try.results39, go_sem]) rfl ⟨rfl, below2 _ _ _⟩
set_option maxRecDepth 100000 in
set_option maxHeartbeats 1000000 in
theorem dtake_short (s : ByteArray) (n N : Nat) (hN : s.size = N) (hn : N < n) (w : World) :
    Calls Try.prog 39 #[.agg #[.string s, .int .i64 0], .int .i64 (n : Int)] w (Ret w (.tuple #[.agg #[.string s, .int .i64 2], .string ⟨#[]⟩])) := by
  go_enter Try.func39, Try.ntmps39
  go_wp2
  refine bodyPost_ret (v := .tuple #[.agg #[.string s, .int .i64 2], .string ⟨#[]⟩]) (by simp [results, Try.results39, go_sem]) rfl ⟨rfl, below2 _ _ _⟩
set_option maxRecDepth 100000 in
set_option maxHeartbeats 1000000 in
theorem dtake_ok (s t u : ByteArray) (n N : Nat) (hN : s.size = N) (hn : n ≤ N) (ht : s.extract n N = t) (hu : s.extract 0 n = u) (w : World) :
    Calls Try.prog 39 #[.agg #[.string s, .int .i64 0], .int .i64 (n : Int)] w (Ret w (.tuple #[.agg #[.string t, .int .i64 0], .string u])) := by
  have HT := Lib.hid ht
  have HU := Lib.hid hu
  clear ht hu
  go_enter Try.func39, Try.ntmps39
  go_wp2
  go_region_held3 (fun W => W.cell? ⟨w.heap.size, 0, none⟩ = some (.string s) ∧ W.cell? ⟨w.heap.size, 1, none⟩ = some (.int .i64 0)) (go_keep) (fail)
  all_goals go_wp2
  all_goals rw [HT.out, HU.out]
  all_goals refine bodyPost_ret (v := .tuple #[.agg #[.string t, .int .i64 0], .string u]) (by simp [results, Try.results39, go_sem]) rfl ⟨rfl, (below2 _ _ _).drew⟩
set_option maxRecDepth 100000 in
set_option maxHeartbeats 1000000 in
theorem dtake_neg (s : ByteArray) (k : Int) (N : Nat) (hN : s.size = N) (hk : k < 0) (hu : s.extract 0 N = s) (w : World) :
    Calls Try.prog 39 #[.agg #[.string s, .int .i64 0], .int .i64 k] w (Ret w (.tuple #[.agg #[.string s, .int .i64 0], .string ⟨#[]⟩])) := by
  have HU := Lib.hid hu
  clear hu
  go_enter Try.func39, Try.ntmps39
  go_wp2
  go_region_held3 (fun W => W.cell? ⟨w.heap.size, 0, none⟩ = some (.string s) ∧ W.cell? ⟨w.heap.size, 1, none⟩ = some (.int .i64 0)) (go_keep) (fail)
  all_goals go_wp2
  all_goals rw [HU.out]
  all_goals refine bodyPost_ret (v := .tuple #[.agg #[.string s, .int .i64 0], .string ByteArray.empty]) (by simp [results, Try.results39, go_sem]) rfl ⟨rfl, (below2 _ _ _).drew⟩
set_option maxRecDepth 100000 in
theorem tk_ok (l : List UInt8) (n : Nat) (h : n ≤ l.length) : tkV l 0 n = l.take n ∧ tkL l 0 n = l.drop n ∧ tkE l 0 n = 0 := by simp [tkV, tkL, tkE, h]
set_option maxRecDepth 100000 in
theorem tk_short (l : List UInt8) (n : Nat) (h : l.length < n) : tkV l 0 n = [] ∧ tkL l 0 n = l ∧ tkE l 0 n = 2 := by
  have h' : ¬ n ≤ l.length := by omega
  simp [tkV, tkL, tkE, h']
set_option maxRecDepth 100000 in
theorem tk_err (l : List UInt8) (e n : Nat) (h : e ≠ 0) : tkV l e n = [] ∧ tkL l e n = l ∧ tkE l e n = e := by simp [tkV, tkL, tkE, h]
set_option maxRecDepth 100000 in
/-- The document's Take, whatever is asked for. -/
theorem dtake_calls (l : List UInt8) (e : Nat) (k : Int) (n : Nat) (hk : k.toNat = n) (w : World) :
    Calls Try.prog 39 #[.agg #[.string ⟨l.toArray⟩, .int .i64 (e : Int)], .int .i64 k] w (Ret w (.tuple #[.agg #[.string ⟨(tkL l e n).toArray⟩, .int .i64 (tkE l e n : Int)], .string ⟨(tkV l e n).toArray⟩])) := by
  by_cases he : e = 0
  · subst he
    by_cases hneg : k < 0
    · have h0 : n = 0 := by omega
      subst h0
      have h := tk_ok l 0 (Nat.zero_le _)
      rw [h.1, h.2.1, h.2.2]
      exact dtake_neg _ k l.length (bstr_size l) hneg (by rw [bstr_from l 0 _ rfl]; rfl) w
    · have hkn : k = (n : Int) := by omega
      subst hkn
      by_cases hn : n ≤ l.length
      · have h := tk_ok l n hn
        rw [h.1, h.2.1, h.2.2]
        exact dtake_ok _ _ _ n l.length (bstr_size l) hn (bstr_from l n _ rfl) (bstr_upto l n) w
      · have h := tk_short l n (by omega)
        rw [h.1, h.2.1, h.2.2]
        exact dtake_short _ n l.length (bstr_size l) (by omega) w
  · have h := tk_err l e n he
    rw [h.1, h.2.1, h.2.2]
    exact dtake_err _ e k he w
end Go.Proofs.Ythkkllcpogagiaa
