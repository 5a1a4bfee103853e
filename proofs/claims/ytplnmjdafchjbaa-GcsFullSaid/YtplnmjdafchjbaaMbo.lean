/- Merged texts: GcsT. -/
import Derived.Test.YtplnmjdafchjbaaMbl
import Derived.Deep.RegionHeld3
import Derived.Deep.CutRange
import Derived.Deep.DeepCutAuto
/- Rows of byte slices; the walk of GcsOrder, over what package gcs is to answer. -/
namespace Go.Proofs.Ytplnmjdafchjbaa
open Go.RowKit
set_option linter.unusedVariables false
set_option linter.unusedSimpArgs false
/-- Values that are byte slices. -/
def RdV (w : World) (V : List Value) (L : List (List UInt8)) : Prop := V.length = L.length ∧ ∀ i (h : i < V.length) (h2 : i < L.length), ∃ A m c, V[i] = .slice A m c ∧ m ≤ c ∧ c ≤ maxLen ∧ Rd w A m L[i]
set_option maxRecDepth 100000 in
theorem RdV.nil (w : World) : RdV w [] [] := ⟨rfl, fun i h => absurd h (by simp)⟩
set_option maxRecDepth 100000 in
theorem RdV.below {w W : World} {V : List Value} {L : List (List UInt8)} (h : RdV w V L) (hb : Below w.heap.size w W) : RdV W V L :=
  ⟨h.1, fun i h1 h2 => by
    obtain ⟨A, m, c, e, k1, k2, k3⟩ := h.2 i h1 h2
    exact ⟨A, m, c, e, k1, k2, k3.below hb⟩⟩
set_option maxRecDepth 100000 in
theorem RdV.app {w : World} {V E : List Value} {L M : List (List UInt8)} (h : RdV w V L) (k : RdV w E M) : RdV w (V ++ E) (L ++ M) := by
  refine ⟨by rw [List.length_append, List.length_append, h.1, k.1], fun i h1 h2 => ?_⟩
  have e := h.1
  rcases Nat.lt_or_ge i V.length with hi | hi
  · obtain ⟨A, m, c, e1, k1, k2, k3⟩ := h.2 i hi (by omega)
    refine ⟨A, m, c, by rw [List.getElem_append_left hi]; exact e1, k1, k2, ?_⟩
    rw [List.getElem_append_left (by omega)]
    exact k3
  · rw [List.length_append] at h1 h2
    obtain ⟨A, m, c, e1, k1, k2, k3⟩ := k.2 (i - V.length) (by omega) (by omega)
    refine ⟨A, m, c, by rw [List.getElem_append_right hi]; exact e1, k1, k2, ?_⟩
    rw [List.getElem_append_right (by omega)]
    simp only [← e]
    exact k3
set_option maxRecDepth 100000 in
theorem RdV.one {w : World} {A : Option Addr} {m c : Nat} {l : List UInt8} (h1 : m ≤ c) (h2 : c ≤ maxLen) (h3 : Rd w A m l) : RdV w [.slice A m c] [l] :=
  ⟨rfl, fun i h k => by
    have e : i = 0 := by simp at h; exact h
    subst e
    exact ⟨A, m, c, rfl, h1, h2, h3⟩⟩
set_option maxRecDepth 100000 in
theorem RdV.cell {w : World} {V : List Value} {L : List (List UInt8)} (h : RdV w V L) : ∀ u ∈ V, u.oneCell' = true := fun u hu => by
  obtain ⟨i, hi, rfl⟩ := List.getElem_of_mem hu
  obtain ⟨A, m, c, e, _⟩ := h.2 i hi (by rw [← h.1]; exact hi)
  rw [e]
  rfl
set_option maxRecDepth 100000 in
theorem rdM_V {w : World} {A : Option Addr} {n : Nat} {V : List Value} {L : List (List UInt8)} (h : RdR w A n V) (k : RdV w V L) : RdM w A n L :=
  ⟨by rw [← k.1, h.1], fun hn => by
    obtain ⟨b, off, e, hb, hc⟩ := h.2 hn
    refine ⟨b, off, e, hb, fun j hj => ?_⟩
    have hjV : j < V.length := by rw [k.1]; exact hj
    obtain ⟨A', m, c, e1, k1, k2, k3⟩ := k.2 j hjV hj
    exact ⟨A', m, c, by rw [hc j V[j] (List.getElem?_eq_getElem hjV), e1], k1, k2, k3⟩⟩
set_option maxRecDepth 100000 in
theorem rdM_vals {w : World} {A : Option Addr} {n : Nat} {L : List (List UInt8)} (h : RdM w A n L) : ∃ V, RdR w A n V ∧ RdV w V L := by
  rcases Nat.eq_zero_or_pos n with h0 | h0
  · subst h0
    have e : L = [] := List.eq_nil_of_length_eq_zero h.1
    subst e
    exact ⟨[], RdR.nil _ _, RdV.nil _⟩
  obtain ⟨b, off, rfl, hb, hc⟩ := h.2 h0
  refine ⟨(List.range n).map fun j => (w.cell? ⟨b, off + j, none⟩).getD undef, ⟨by simp, fun _ => ⟨b, off, rfl, hb, fun j u hu => ?_⟩⟩, by simp [h.1], fun i h1 h2 => ?_⟩
  · rw [List.getElem?_map] at hu
    have hj : j < n := by
      rcases Nat.lt_or_ge j n with hj | hj
      · exact hj
      · rw [List.getElem?_eq_none (by simpa using hj)] at hu; simp at hu
    obtain ⟨A', m, c', e1, _⟩ := hc j (by rw [h.1]; exact hj)
    rw [List.getElem?_range hj] at hu
    simp only [Option.map_some, Option.some.injEq] at hu
    rw [e1] at hu ⊢
    rw [← hu]
    rfl
  · obtain ⟨A', m, c', e1, k1, k2, k3⟩ := hc i h2
    refine ⟨A', m, c', ?_, k1, k2, k3⟩
    rw [List.getElem_map, List.getElem_range, e1]
    rfl
set_option maxRecDepth 100000 in
theorem filt_same (k l : Nat) (L M : List (List UInt8)) (h : ∀ x, x ∈ L ↔ x ∈ M) : filt k l L = filt k l M := by
  unfold filt
  rw [gnums_same k l L M h, (once_perm L M h).length_eq]
set_option maxRecDepth 100000 in
theorem infoV : (Try.prog.info? 27).map (fun i => (i.zero, i.size)) = some (some (.slice none 0 0), 1) := by kernel_rfl
set_option maxRecDepth 100000 in
theorem infoVb : (Try.prog.info? 27).map (fun i => (i.zero, i.size, i.bytes)) = some (some (.slice none 0 0), 1, 24) := by kernel_rfl
set_option maxRecDepth 100000 in
/-- append of values that are read, at a step of a drawn region. -/
theorem wp_appR {ops : Array Oper} {o : Oper} {a : Act} {W : World} {Q : Exit → Act → World → Prop} {K : Act → World → Prop} (t e : TypeId) (z : Value) (bytes : Nat) (ht : Try.prog.underlying t = some (.slice e)) (hinfo : (Try.prog.info? e).map (fun i => (i.zero, i.size, i.bytes)) = some (some z, 1, bytes)) (hz1 : z.cells.size = 1) (hby : bytes ≤ 100) (s x : Operand) (ho : o.op = .call { callee := .builtin .append, args := #[s, x], argTypes := #[t, t] })
    (base : Nat) (w : World) (hb : Below base w W) (hbase : base ≤ w.heap.size) (A : Option Addr) (n c : Nat) (V : List Value) (hs : a.eval s = .slice A n c) (hown : OwnR W base e A n c V) (X : Option Addr) (m cX : Nat) (E : List Value) (hx : a.eval x = .slice X m cX) (hsrc : RdR W X m E) (hone : ∀ u ∈ E, u.oneCell' = true)
    (hn : n + m ≤ 1000000) (h : ∀ A' c' w', OwnR w' base e A' (n + m) c' (V ++ E) → Frm (fun i => blkOf A = some i) W w' → Below base w w' → K (a.put o.dst (.slice A' (n + m) c')) w') : o.wp Try.prog a W K Q := by
  have hbW : base ≤ W.heap.size := Nat.le_trans hbase hb.size
  refine wpo_appG W s x t ho e z bytes ht hinfo hz1 base _ n V hs hown.2 X m cX E hx hsrc.1 (fun hm => ?_) hone (by unfold maxLen; omega) (Nat.le_trans (Nat.mul_le_mul hn hby) (by decide)) hbW (fun A' c' w' g1 g2 g3 g4 => ?_)
  · obtain ⟨b, off, e1, _, hc⟩ := hsrc.2 hm
    exact ⟨_, e1, fun j u hu => by rw [Addr.add_mid]; exact hc j u hu⟩
  · exact h A' c' w' ⟨by rw [List.length_append, hown.1, hsrc.1], g1⟩ (frm_grownR g4) (hb.trans g2)
set_option maxRecDepth 100000 in
set_option maxHeartbeats 8000000 in
theorem gcsOrder_walk (K : GcsOk) (k l : Nat) (hk64 : k < 2 ^ 64) (hl64 : l < 2 ^ 64) (A : Option Addr) (n c : Nat) (L : List (List UInt8)) (w : World) (w1 : RdM w A n L ∧ n ≤ c ∧ c ≤ maxLen) : Calls Try.prog 7 #[.agg #[.int .u64 (k : Int), .int .u64 (l : Int)], .slice A n c] w (Ret w (.bool true)) := by
  obtain ⟨hr, hnc, hcm⟩ := w1
  have hln := hr.len
  have HCM := Lib.hid hcm
  have hk0 : Blk (w.alloc (.cells #[.int .u64 (k : Int), .int .u64 (l : Int)] 23)) w.heap.size [.int .u64 (k : Int), .int .u64 (l : Int)] 23 := Blk.new w _ _
  obtain ⟨w0, hw0⟩ : ∃ z, z = w.alloc (.cells #[.int .u64 (k : Int), .int .u64 (l : Int)] 23) := ⟨_, rfl⟩
  have hB0 : Below w.heap.size w w0 := by rw [hw0]; exact below_al (Below.refl _ w) _
  have hs0 : w0.heap.size = w.heap.size + 1 := by rw [hw0]; simp
  rw [← hw0] at hk0
  have HW0 := Lib.hid hw0
  have HB0 := Lib.hid hB0
  have hr0 : RdM w0 A n L := hr.below hB0
  have CS : Hid (∀ W, Below w0.heap.size w0 W → Calls Try.prog 9 #[.slice A n c] W (Ret W (.bool (sml L)))) := Lib.hid fun W hb => gsmall_calls A n c L W (hr0.below hb) (by omega)
  have CA : Hid (∀ W, Calls Try.prog 10 #[] W (Ret W (.bool true))) := Lib.hid fun W => awake13_calls K W
  by_cases hs : sml L = false
  · rw [hs] at CS
    clear hr hr0 hk0 hw0 hB0
    go_enter Try.func7, Try.ntmps7
    go_upto_region 1 with fail
    rw [← HW0.out]
    go_wp2_with (first
      | (go_at_call 9; refine (CS.out _ (Below.refl _ _)).mono ?_; rintro e' x1 ⟨rfl, hB1⟩)
      | (go_at_call 10; refine (CA.out _).mono ?_; rintro e' x2 ⟨rfl, hB2⟩))
    go_ret
    exact ⟨rfl, below_more HB0.out (below_more hB1 hB2)⟩
  have hs : sml L = true := by simpa using hs
  obtain ⟨h20, h100⟩ := sml_yes hs
  have hn20 : n ≤ 20 := by omega
  rw [hs] at CS
  obtain ⟨V0, hV⟩ : ∃ z, z = filt k l L := ⟨_, rfl⟩
  obtain ⟨s, hs'⟩ : ∃ z : ByteArray, z = ⟨V0.toArray⟩ := ⟨_, rfl⟩
  have CG : Hid (∀ W A' n' c' M, Below w0.heap.size w0 W → RdM W A' n' M → n' ≤ c' → c' ≤ maxLen → n' ≤ 2000 → (∀ x, x ∈ M ↔ x ∈ L) → Calls Try.prog 11 #[.agg #[.int .u64 (k : Int), .int .u64 (l : Int)], .slice A' n' c'] W fun e w' => ∃ A2 n2 c2, e = .returned (.tuple #[.slice A2 n2 c2, .int .i64 0]) ∧ RdF w' (fun i => i < W.heap.size) A2 n2 V0 ∧ n2 ≤ c2 ∧ c2 ≤ maxLen ∧ Below W.heap.size W w') := Lib.hid fun W A' n' c' M hb h1 h2 h3 h4 h5 => by
    rw [hV, ← filt_same k l M L h5]
    exact K.build W k l A' n' c' M hk64 hl64 h1 h2 h3 h4 (fun t ht => by have := h100 t ((h5 t).1 ht); omega) (by rw [(once_perm M L h5).length_eq]; have := once_len L; omega)
  obtain ⟨E, hE1, hE2⟩ := rdM_vals hr0
  have HE := Lib.hid (And.intro hE1 hE2)
  have HR0 := Lib.hid hr0
  have HLN := Lib.hid hln
  have HCV : Hid (∀ W A' n' c', Rd W A' n' V0 → (convert 27 9 (.slice A' n' c')).run Try.prog W = .ok (.string s) W) := Lib.hid fun W A' n' c' h => by rw [hs']; exact conv8 W A' n' c' V0 h

  have HMEM2 : Hid (∀ x, x ∈ L.reverse ↔ x ∈ L) := Lib.hid fun x => List.mem_reverse
  have HMEM3 : Hid (∀ x, x ∈ L.reverse ++ L ↔ x ∈ L) := Lib.hid fun x => by rw [List.mem_append, List.mem_reverse, or_self]
  have hcm' := hcm
  unfold maxLen at hcm'
  clear hr hr0 hB0 hs hV hs' h20 h100 K hln hw0 hE1 hE2 hcm
  go_enter Try.func7, Try.ntmps7
  go_upto_region 1 with fail
  rw [← HW0.out]
  go_upto_region 3 with (first
    | (go_at_call 9; refine (CS.out _ (Below.refl _ _)).mono ?_; rintro e' x1 ⟨rfl, hB1⟩))
  have HK1 := Lib.hid hk0
  have HB1 := Lib.hid hB1
  clear hB1 CS
  go_wp2
  go_loopw [19, 5] (fun cv ov wr => ∃ (i : Nat) (A1 : Option Addr) (c1 : Nat) (V : List Value), i ≤ n ∧ cv = .int .i64 (i : Int) ∧ ov = .slice A1 i c1 ∧ OwnR wr w0.heap.size 27 A1 i c1 V ∧ RdV w0 V (L.reverse.take i) ∧ Below w0.heap.size w0 wr) (fun cv _ _ => n - (intOf cv).toNat)
  case atStart => exact ⟨0, none, 0, [], Nat.zero_le _, rfl, rfl, OwnR.nil _ _ _, RdV.nil _, HB1.out⟩
  case round =>
    obtain ⟨i, A1, c1, V, hin, rfl, rfl, hown, hV, hbel⟩ := hrel
    by_cases hlt : i < n
    · have hlt' : (i : Int) < (n : Int) := by omega
      obtain ⟨j, hj⟩ : ∃ z, z = n - 1 - i := ⟨_, rfl⟩
      have hjn : j < n := by omega
      obtain ⟨bx, ox, X', mx, dx, hli, rfl, sc0, h1, h2, h3⟩ := HR0.out.at_ hjn
      have hbx : bx < w0.heap.size := by
        obtain ⟨b', off', e, hb', _⟩ := HR0.out.2 (by omega)
        injection e with e
        injection e with e1 e2 _
        omega
      have sc : wr.cell? ⟨bx, ox + j, none⟩ = some (.slice X' mx dx) := (hbel.cell (p := ⟨bx, ox + j, none⟩) hbx).trans sc0
      obtain ⟨N1, hN1⟩ : ∃ z, z = n - 1 := ⟨_, rfl⟩
      have a1 : (n : Int) - 1 = (N1 : Int) := by omega
      have a2 : (N1 : Int) - (i : Int) = (j : Int) := by omega
      have hjb : j ≤ 100 := by omega
      have HN : Hid (L.reverse.take (i + 1) = L.reverse.take i ++ [L[j]]) := Lib.hid (by
        rw [List.take_succ_eq_append_getElem (by rw [List.length_reverse, HLN.out]; exact hlt), List.getElem_reverse]
        simp only [HLN.out, ← hj])
      have HV2 : Hid (RdV w0 (V ++ [.slice X' mx dx]) (L.reverse.take (i + 1))) := Lib.hid (by rw [HN.out]; exact hV.app (RdV.one h1 h2 h3))
      have HO := Lib.hid hown
      have HB := Lib.hid hbel
      unfold maxLen at h2
      clear sc0 h3 hown hV hbel hbx hj hN1 HN hli
      go_wp2_with (first
        | ((with_reducible refine at_bsX 24 1 #[(0, .tmp 30)] ?_); refine wpList_bsR rfl 24 27 (.slice none 0 0) (.slice X' mx dx) Try.underlying24 infoV rfl rfl (.tmp 30) rfl (by first | rfl | simp [Act.eval]) ?_; intro g w1 hb1 hg1 hl1 hB1)
        | ((with_reducible refine at_appX 24 (.tmp 22) (.tmp 31) ?_); refine wpList_appR rfl 24 27 (.slice none 0 0) 24 Try.underlying24 infoVb rfl (by decide) (.tmp 22) (.tmp 31) rfl w0.heap.size w0 (below_more HB.out hB1) (Nat.le_refl _) A1 i c1 V (by first | rfl | simp [Act.eval]) (HO.out.up hB1) _ 1 1 [.slice X' mx dx] (by first | rfl | simp [Act.eval]) hb1.rdR (fun u hu => by rw [List.mem_singleton.1 hu]; rfl) (by omega) ?_; intro A3 c3 w2 ho2 hf2 hB2))
      go_roundw
      case rel => exact ⟨i + 1, A3, c3, _, by omega, by go_num, rfl, ho2, HV2.out, hB2⟩
      case measure => simp [intOf]; omega
    · have hlt' : ¬ (i : Int) < (n : Int) := by omega
      have e : i = n := by omega
      subst e
      rw [List.take_of_length_le (by rw [List.length_reverse, HLN.out]; omega)] at hV
      have HV := Lib.hid hV
      obtain ⟨wo, hwo⟩ : ∃ x, x = wr := ⟨_, rfl⟩
      rw [← hwo] at hown hbel ⊢
      have hk := (hbel.block w.heap.size (by omega)).trans HK1.out
      have HBLK := Lib.hid fun i hi => (hown.blk i hi).2.1
      have hic : i ≤ c1 ∧ c1 ≤ 9223372036854775807 := by have := hown.cap; unfold maxLen at this; omega
      have HCP := Lib.hid hown.cap
      have hcm : c ≤ maxLen := by unfold maxLen; omega
      have HCM9 := Lib.hid hcm
      clear hV hwo hcm
      go_upto_region 10 with (first
        | ((with_reducible refine at_load 23 (.tmp 2) ?_); refine wpList_load_mid rfl 23 (.tmp 2) rfl w.heap.size 0 (by first | rfl | (simp [Act.eval]; done)) [.int .u64 (k : Int), .int .u64 (l : Int)] _ (Blk.range hk) Try.underlying23 rfl (by kernel_rfl) ?_)
        | (go_at_call 11; refine (CG.out _ A i c L hbel (HR0.out.below hbel) hnc HCM9.out (by omega) (fun x => Iff.rfl)).mono ?_; rintro e' x4 ⟨A5, n5, c5, rfl, hR5, hn5, hc5, hB4⟩))
      have hk := blk_upG hk hB4
      have hown := hown.up hB4
      have HBO := Lib.hid hbel
      have hB := below_more hbel hB4
      unfold maxLen at hc5
      clear hbel
      go_upto_region 11 with (first
        | ((with_reducible refine at_load 23 (.tmp 2) ?_); refine wpList_load_mid rfl 23 (.tmp 2) rfl w.heap.size 0 (by first | rfl | (simp [Act.eval]; done)) [.int .u64 (k : Int), .int .u64 (l : Int)] _ (Blk.range hk) Try.underlying23 rfl (by kernel_rfl) ?_)
        | (go_at_call 11; refine (CG.out _ A1 i c1 L.reverse hB (rdM_V hown.rd (HV.out.below hB)) HCP.out.1 HCP.out.2 (by omega) HMEM2.out).mono ?_; rintro e' x5 ⟨A7, n7, c7, rfl, hR7, hn7, hc7, hB5⟩))
      have hk := blk_upG hk hB5
      have hown := hown.up hB5
      have hR5 := hR5.below hB5
      have HB5 := Lib.hid (And.intro hB4 hB5)
      have hB := below_more hB hB5
      unfold maxLen at hc7
      have hk := hk.drew
      have hB := hB.drew
      have hown : OwnR x5.drew w0.heap.size 27 A1 i c1 V := hown
      have hR5 : RdF x5.drew (fun j => j < wo.heap.size) A5 n5 V0 := hR5
      have hR7 : RdF x5.drew (fun j => j < x4.heap.size) A7 n7 V0 := hR7
      clear hB4 hB5
      have hk0 : Blk w0 w.heap.size [.int .u64 (k : Int), .int .u64 (l : Int)] 23 := HK1.out
      refine wp_region_held_drew (S := fun W => Blk W w.heap.size [.int .u64 (k : Int), .int .u64 (l : Int)] 23) (by kernel_rfl) ?_ (fun hHeld => ?_)
      · exact hk
      refine wpAnyH_take (i := 0) rfl (by kernel_rfl) (by kernel_rfl) (by kernel_rfl) (fun _ _ _ h => h) (yieldsIf_load_mid (by rfl) _ _ rfl _ _ rfl [.int .u64 (k : Int), .int .u64 (l : Int)] _ (fun w hSw => Blk.range hSw) Try.underlying23 rfl (by kernel_rfl)) (by assumption) ?_
      (try simp only [List.getElem_toArray, List.getElem_cons_succ, List.getElem_cons_zero, Act.put, List.setIfInBounds_toArray, List.set_cons_succ, List.set_cons_zero])
      refine wpAnyH_take (i := 1) (v := ?_) rfl (by kernel_rfl) (by kernel_rfl) (by kernel_rfl) (fun _ _ _ h => h) (Or.inl ⟨by rfl, ?_⟩) (by assumption) ?_
      rotate_left 1
      · intro w hSw; (try dsimp only at hSw); simp only [List.getElem_toArray, List.getElem_cons_succ, List.getElem_cons_zero]; go_simp; try (with_reducible rfl)
      (try simp only [List.getElem_toArray, List.getElem_cons_succ, List.getElem_cons_zero, Act.put, List.setIfInBounds_toArray, List.set_cons_succ, List.set_cons_zero])
      refine wpAnyH_take (i := 2) (v := ?_) rfl (by kernel_rfl) (by kernel_rfl) (by kernel_rfl) (fun _ _ _ h => h) (Or.inl ⟨by rfl, ?_⟩) (by assumption) ?_
      rotate_left 1
      · intro w hSw; (try dsimp only at hSw); simp only [List.getElem_toArray, List.getElem_cons_succ, List.getElem_cons_zero]; go_simp; try (with_reducible rfl)
      (try simp only [List.getElem_toArray, List.getElem_cons_succ, List.getElem_cons_zero, Act.put, List.setIfInBounds_toArray, List.set_cons_succ, List.set_cons_zero])
      refine wpAnyH_ready (rs := [3]) (by kernel_rfl) (by simp) ?_
      refine AllReadyH.cons rfl (fun K hK => ?_) AllReadyH.nil
      (try simp only [List.getElem_toArray, List.getElem_cons_succ, List.getElem_cons_zero])
      refine Eq.mpr (if_pos (by first | rfl | simp [Region.wanted, yielded, Act.put])) ?_
      refine wp_appR (ops := #[]) 24 27 (.slice none 0 0) 24 Try.underlying24 infoVb rfl (by decide) _ _ rfl w0.heap.size w0 hB (Nat.le_refl _) A1 i c1 V (by first | rfl | (simp [Act.eval]; done)) hown A i c E (by first | rfl | (simp [Act.eval]; done)) (HE.out.1.below hB) HE.out.2.cell (by omega) ?_
      intro A3 c3 x6 hO3 hF3 hB6
      refine hK.out _ _ ?_ (fun hHeld => ?_)
      · exact (hB6.block w.heap.size (by omega)).trans hk0
      clear hK K
      (try simp only [Act.put, List.setIfInBounds_toArray, List.set_cons_succ, List.set_cons_zero])
      have hk := (hB6.block w.heap.size (by omega)).trans hk0
      have hB := hB6
      have hR5 := hR5.frm (hF3.mono fun j hj => HBLK.out j hj)
      have hR7 := hR7.frm (hF3.mono fun j hj => Nat.lt_of_lt_of_le (HBLK.out j hj) HB5.out.1.size)
      refine wpAnyH_ready (rs := [4]) (by kernel_rfl) (by simp) ?_
      refine AllReadyH.cons rfl (fun K hK => ?_) AllReadyH.nil
      (try simp only [List.getElem_toArray, List.getElem_cons_succ, List.getElem_cons_zero])
      go_simp
      go_at_call 11; refine (CG.out _ A3 (i + i) c3 _ hB (rdM_V hO3.rd ((HV.out.app HE.out.2).below hB)) hO3.cap.1 hO3.cap.2 (by omega) HMEM3.out).mono ?_; rintro e' x7 ⟨A9, n9, c9, rfl, hR9, hn9, hc9, hB9⟩
      (try (go_wp2_with fail))
      refine hK.out _ _ ?_ (fun hHeld => ?_)
      · exact blk_upG hk hB9
      clear hK K
      (try simp only [Act.put, List.setIfInBounds_toArray, List.set_cons_succ, List.set_cons_zero])
      refine wpAnyH_take (i := 5) (v := ?_) rfl (by kernel_rfl) (by kernel_rfl) (by kernel_rfl) (fun _ _ _ h => h) (Or.inl ⟨by rfl, ?_⟩) (by assumption) ?_
      rotate_left 1
      · intro w hSw; (try dsimp only at hSw); simp only [List.getElem_toArray, List.getElem_cons_succ, List.getElem_cons_zero]; go_simp; try (with_reducible rfl)
      (try simp only [List.getElem_toArray, List.getElem_cons_succ, List.getElem_cons_zero, Act.put, List.setIfInBounds_toArray, List.set_cons_succ, List.set_cons_zero])
      refine wpAnyH_take (i := 6) (v := ?_) rfl (by kernel_rfl) (by kernel_rfl) (by kernel_rfl) (fun _ _ _ h => h) (Or.inl ⟨by rfl, ?_⟩) (by assumption) ?_
      rotate_left 1
      · intro w hSw; (try dsimp only at hSw); simp only [List.getElem_toArray, List.getElem_cons_succ, List.getElem_cons_zero]; go_simp; try (with_reducible rfl)
      (try simp only [List.getElem_toArray, List.getElem_cons_succ, List.getElem_cons_zero, Act.put, List.setIfInBounds_toArray, List.set_cons_succ, List.set_cons_zero])
      refine wpAnyH_take (i := 7) (v := ?_) rfl (by kernel_rfl) (by kernel_rfl) (by kernel_rfl) (fun _ _ _ h => h) (Or.inl ⟨by rfl, ?_⟩) (by assumption) ?_
      rotate_left 1
      · intro w hSw; (try dsimp only at hSw); simp only [List.getElem_toArray, List.getElem_cons_succ, List.getElem_cons_zero]; go_simp; try (with_reducible rfl)
      (try simp only [List.getElem_toArray, List.getElem_cons_succ, List.getElem_cons_zero, Act.put, List.setIfInBounds_toArray, List.set_cons_succ, List.set_cons_zero])
      refine wpAnyH_take (i := 8) (v := ?_) rfl (by kernel_rfl) (by kernel_rfl) (by kernel_rfl) (fun _ _ _ h => h) (Or.inl ⟨by rfl, ?_⟩) (by assumption) ?_
      rotate_left 1
      · intro w hSw; (try dsimp only at hSw); simp only [List.getElem_toArray, List.getElem_cons_succ, List.getElem_cons_zero]; go_simp; try (with_reducible rfl)
      (try simp only [List.getElem_toArray, List.getElem_cons_succ, List.getElem_cons_zero, Act.put, List.setIfInBounds_toArray, List.set_cons_succ, List.set_cons_zero])
      refine wpAnyH_take (i := 9) (v := ?_) rfl (by kernel_rfl) (by kernel_rfl) (by kernel_rfl) (fun _ _ _ h => h) (Or.inl ⟨by rfl, ?_⟩) (by assumption) ?_
      rotate_left 1
      · intro w hSw; (try dsimp only at hSw); simp only [List.getElem_toArray, List.getElem_cons_succ, List.getElem_cons_zero]; go_simp; try (with_reducible rfl)
      (try simp only [List.getElem_toArray, List.getElem_cons_succ, List.getElem_cons_zero, Act.put, List.setIfInBounds_toArray, List.set_cons_succ, List.set_cons_zero])
      refine wpAnyH_done (by kernel_rfl) ?_ _
      have hcv5 := HCV.out x7 A5 n5 c5 (hR5.below hB9).rd
      have hcv7 := HCV.out x7 A7 n7 c7 (hR7.below hB9).rd
      have hcv9 := HCV.out x7 A9 n9 c9 hR9.rd
      have HB9 := Lib.hid (below_more hB hB9)
      unfold maxLen at hc9
      clear hB hB9 hR5 hR7 hR9 hO3 hF3 hB6 hown hk
      go_wp2_with (first
        | (go_at_call 10; refine (CA.out _).mono ?_; rintro e' x8 ⟨rfl, hB8⟩))
      go_ret
      exact ⟨rfl, HB0.out.trans ((below_more HB9.out hB8).mono (by omega))⟩
end Go.Proofs.Ytplnmjdafchjbaa
