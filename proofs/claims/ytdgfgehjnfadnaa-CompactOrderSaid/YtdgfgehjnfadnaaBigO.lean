/- The contracts of the reference's Low, High and Is of layer 4. -/
import Derived.Test.YtdgfgehjnfadnaaBigL
namespace Go.Proofs.Ytdgfgehjnfadnaa
open Go.RowKit
set_option linter.unusedVariables false

theorem p16 : 65536 ^ 16 = 2 ^ 256 := by decide
/-- append(Big{}, a...) -/
theorem appI_all {ops : Array Oper} {rest : List Oper} {o : Oper} {a : Act} {Q : Exit → Act → World → Prop} (w : World) (hgd : o.guard = none) (s x : Operand)
    (ho : o.op = .call { callee := .builtin .append, args := #[s, x], argTypes := #[30, 30] })
    (base : Nat) (A : Option Addr) (n c : Nat) (l : List Nat) (X : Option Addr) (m cx : Nat) (r : List Nat) (hs : a.eval s = .slice A n c) (hx : a.eval x = .slice X m cx)
    (hown : OwnI w base A n c l) (hr : RdI w X m r) (hb : n + m ≤ 1000000) (hbase : base ≤ w.heap.size)
    (h : ∀ A' c' w', OwnI w' base A' (n + m) c' (l ++ r) → Below base w w' → wpList Try.prog ops Q rest (a.put o.dst (.slice A' (n + m) c')) w') :
    wpList Try.prog ops Q (o :: rest) a w := by
  refine wpList_plain hgd fun _ hK => ?_
  refine wpo_appG _ s x 30 ho 3 (.int .i64 0) 8 Try.underlying30 infoI rfl base _ n (l.map WI) hs hown.2 X m cx (r.map WI) hx (by rw [List.length_map]; exact hr.1) ?_ ?_ (by unfold maxLen; omega) (by omega) hbase ?_
  · intro hm
    obtain ⟨b, off, rfl, _, hc⟩ := hr.2 hm
    refine ⟨_, rfl, fun j v hj => ?_⟩
    have hjl : j < r.length := by have := (List.getElem?_eq_some_iff.1 hj).1; simpa using this
    rw [Addr.add_mid, hc j (by have := hr.1; omega)]
    rw [mapI_at r j hjl] at hj
    exact hj
  · intro v hv; simp at hv; obtain ⟨u, _, rfl⟩ := hv; rfl
  · intro A' c' w' hown' hbel _ _
    exact hK _ _ (h A' c' w' ⟨by simp [hown.1, hr.1], by rw [List.map_append]; exact hown'⟩ hbel)
theorem OwnI.empty (w : World) : OwnI (w.alloc (.cells #[] 3)) w.heap.size (some ⟨w.heap.size, 0, none⟩) 0 0 [] :=
  ⟨rfl, rfl, .inr ⟨w.heap.size, 0, _, rfl, Nat.le_refl _, heap_alloc_new w _, Nat.zero_le _, by unfold maxLen; omega, rfl, rfl⟩⟩
theorem RdI.drop {w : World} {A : Option Addr} {n : Nat} {l : List Nat} (h : RdI w A n l) (c k : Nat) (hnc : n ≤ c) : RdI w (sub A c k) (n - k) (l.drop k) := by
  refine ⟨by rw [List.length_drop, h.1], fun h0 => ?_⟩
  obtain ⟨b, off, rfl, hlt, hc⟩ := h.2 (by omega)
  refine ⟨b, off + k, ?_, hlt, fun j hj => ?_⟩
  · unfold sub
    rw [if_neg (by omega), Option.map_some, Addr.add_mid]
  · rw [Nat.add_assoc, hc (k + j) (by omega)]
    rw [List.getD_eq_getElem?_getD, List.getD_eq_getElem?_getD, List.getElem?_drop]
theorem low_val (N : Nat) : valB ((digs N).take 16) = N % 2 ^ 256 := by
  have h1 := valB_append ((digs N).take 16) ((digs N).drop 16)
  rw [List.take_append_drop, val_digs] at h1
  have h2 := valB_lt ((digs N).take 16) (fun d hd => digs_lt N d (List.mem_of_mem_take hd))
  by_cases h : 16 ≤ (digs N).length
  · rw [List.length_take, Nat.min_eq_left h] at h1 h2
    rw [p16] at h1 h2
    generalize valB (List.take 16 (digs N)) = u at *
    generalize valB (List.drop 16 (digs N)) = v at *
    rw [h1, Nat.add_mul_mod_self_left, Nat.mod_eq_of_lt h2]
  · have e : (digs N).drop 16 = [] := List.drop_of_length_le (by omega)
    rw [e] at h1
    simp only [valB, Nat.mul_zero, Nat.add_zero] at h1
    have h3 := (digs_len N 16).1 (by omega)
    rw [p16] at h3
    rw [← h1, Nat.mod_eq_of_lt h3]
theorem high_val (N : Nat) : valB ((digs N).drop 16) = N / 2 ^ 256 := by
  have h1 := valB_append ((digs N).take 16) ((digs N).drop 16)
  rw [List.take_append_drop, val_digs] at h1
  have h2 := valB_lt ((digs N).take 16) (fun d hd => digs_lt N d (List.mem_of_mem_take hd))
  by_cases h : 16 ≤ (digs N).length
  · rw [List.length_take, Nat.min_eq_left h] at h1 h2
    rw [p16] at h1 h2
    generalize valB (List.take 16 (digs N)) = u at *
    generalize valB (List.drop 16 (digs N)) = v at *
    rw [h1, Nat.add_mul_div_left _ _ (by decide), Nat.div_eq_of_lt h2, Nat.zero_add]
  · have e : (digs N).drop 16 = [] := List.drop_of_length_le (by omega)
    have h3 := (digs_len N 16).1 (by omega)
    rw [p16] at h3
    rw [e, Nat.div_eq_of_lt h3]
    rfl

end Go.Proofs.Ytdgfgehjnfadnaa
