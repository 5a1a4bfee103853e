/- Contracts of the document's own Num, Var, Text of layer 6: bytes as strings. -/
import Derived.Test.YthkkllcpogagiaaCodT
import Derived.Test.YthkkllcpogagiaaDgs
import Derived.Laws.Concat
namespace Go.Proofs.Ythkkllcpogagiaa
open Go.RowKit
set_option linter.unusedVariables false

set_option maxRecDepth 100000 in
theorem OwnJ.lt {w : World} {base n c : Nat} {A : Option Addr} {l : List Int} (h : OwnJ w base A n c l) {g : Nat} (hg : blkOf A = some g) : g < w.heap.size ∧ base ≤ g := by
  rcases h.2.2 with ⟨hv, _⟩ | ⟨g', cap, cur, hv, hb, hh, _⟩
  · injection hv with e1; rw [e1] at hg; simp [blkOf] at hg
  · injection hv with e1
    rw [e1] at hg
    simp [blkOf] at hg
    subst hg
    exact ⟨(Array.getElem?_eq_some_iff.1 hh).1, hb⟩
set_option maxRecDepth 100000 in
theorem OwnJ.frm {w w' : World} {base n c : Nat} {A : Option Addr} {l : List Int} {S : Nat → Prop} (h : OwnJ w base A n c l) (hf : Frm S w w') (hS : ∀ g, blkOf A = some g → ¬ S g) : OwnJ w' base A n c l := by
  have hlt := fun g (hg : blkOf A = some g) => h.lt hg
  obtain ⟨h1, h2, h3⟩ := h
  refine ⟨h1, h2, ?_⟩
  rcases h3 with h' | ⟨g, cap, cur, e, hb, hh, hr⟩
  · exact .inl h'
  · refine .inr ⟨g, cap, cur, e, hb, ?_, hr⟩
    injection e with e1
    have hA : blkOf A = some g := by rw [e1]; rfl
    rw [hf.block g (hlt g hA).1 (hS g hA)]; exact hh
set_option maxRecDepth 100000 in
/-- append(out, u) at a byte slice that the call made: nothing but its own block has changed. -/
theorem app8_fr {ops : Array Oper} {rest : List Oper} {o : Oper} {a : Act} {Q : Exit → Act → World → Prop} (w : World) (hgd : o.guard = none) (s x : Operand)
    (ho : o.op = .call { callee := .builtin .append, args := #[s, x], argTypes := #[22, 22] })
    (A : Option Addr) (n c : Nat) (l : List UInt8) (z : Int) (u : UInt8) (hz : z = (u.toNat : Int)) (hs : a.eval s = .slice A n c) (hx : a.eval x = .slice (some ⟨w.heap.size, 0, none⟩) 1 1)
    (hown : Own w 0 A n c l) (hb : n + 1 ≤ 140737488355328)
    (h : ∀ A' c' w', Own w' 0 A' (n + 1) c' (l ++ [u]) → Frm (fun i => blkOf A = some i) w w' → (∀ g, blkOf A' = some g → blkOf A = some g ∨ w.heap.size ≤ g) → wpList Try.prog ops Q rest (a.put o.dst (.slice A' (n + 1) c')) w') :
    wpList Try.prog ops Q (o :: rest) a (w.alloc (.cells #[.int .u8 z] 5)) := by
  subst hz
  refine wpList_plain hgd fun _ hK => wpo_appG _ s x 22 ho 5 (.int .u8 0) 1 Try.underlying22 info8 rfl 0 _ n (l.map B8) hs (own_alloc hown.2 _) _ 1 1 [B8 u] hx rfl ?_ ?_ (by unfold maxLen; omega) (by omega) (Nat.zero_le _) ?_
  · intro _
    refine ⟨_, rfl, fun j v hj => ?_⟩
    have hp : (⟨w.heap.size, 0, none⟩ : Addr).add j = ⟨w.heap.size, j, none⟩ := by unfold Addr.add; split <;> simp_all
    rw [hp, cell_of_row _ w.heap.size j _ 5 (0, 0) (heap_alloc_new w _)]
    simpa [B8] using hj
  · intro v hv; simp at hv; subst hv; rfl
  · intro A' c' w' hown' _ hbk hgr
    have hf : Frm (fun i => blkOf A = some i) w w' := ((Frm.refl _ w).alloc _).trans (frm_grown hgr)
    rw [own_blkOf, own_blkOf] at hbk
    refine hK _ _ (h A' c' w' ⟨by simp [hown.1], by rw [List.map_append]; exact hown'⟩ hf (fun g hg => ?_))
    rcases hbk with e | e
    · exact .inl (e ▸ hg)
    · rw [e] at hg; injection hg with hg; exact .inr (by simp at hg; omega)
set_option maxRecDepth 100000 in
theorem dgs_get (n m t : Nat) (h : t < (dgs n m).length) : (dgs n m)[t] = ((n / 256 ^ t % 256 : Nat) : Int) := by simp [dgs]
set_option maxRecDepth 100000 in
theorem dgs_len (n m : Nat) : (dgs n m).length = m := by simp [dgs]
set_option maxRecDepth 100000 in
theorem little_snoc (n t : Nat) : little n (t + 1) = little n t ++ [UInt8.ofNat (n / 256 ^ t)] := by simp [little, List.range_succ]
set_option maxRecDepth 100000 in
set_option maxHeartbeats 1000000 in
theorem nnum_calls (n : Nat) (k : Int) (m : Nat) (hm : cw k = m) (hn : n < 18446744073709551616) (w : World) :
    Calls Try.prog 49 #[.int .u64 (n : Int), .int .i64 k] w (Ret w (.string ⟨(little n m).toArray⟩)) := by
  have hm8 : m ≤ 8 := by have := cw_bd k; omega
  have HM := Lib.hid hm
  have CD : Hid (∀ W, Calls Try.prog 50 #[.int .u64 (n : Int), .int .i64 (m : Int)] W (MkI W (dgs n m))) := Lib.hid fun W => digits_calls n m hn (by omega) W
  clear hm hn
  go_enter Try.func49, Try.ntmps49
  go_wp2_with fail
  refine (held_nat _ _ HM.out _).mono ?_
  rintro e' w' ⟨rfl, rfl⟩
  go_wp2_with fail
  refine (CD.out _).mono ?_
  rintro e' w1 ⟨X, nx, cx, rfl, hox, hbx⟩
  have hl := hox.1
  rw [dgs_len] at hl
  subst hl
  have he := own_empty w
  have hbe : Below w.heap.size w (w.alloc (.cells #[] 5)) := below_al (Below.refl _ w) _
  have ho1 : Own w1 0 (some ⟨w.heap.size, 0, none⟩) 0 0 [] := (Own.frm he (S := fun _ => False) (Frm.of_below hbx) (fun _ _ h => h)).base (fun _ _ => Nat.zero_le _)
  have hb1 : Below w.heap.size w w1 := below_more hbe hbx
  have hne : ∀ g, blkOf (some (⟨w.heap.size, 0, none⟩ : Addr)) = some g → blkOf X ≠ some g ∧ w.heap.size ≤ g := fun g hg => by
    simp [blkOf] at hg
    subst hg
    refine ⟨fun e => ?_, Nat.le_refl _⟩
    have := (hox.lt e).2
    simp at this
    omega
  have HX := Lib.hid hox
  clear hox hbx he hbe
  go_wp2
  go_loopw [5, 14] (fun o i wr => ∃ (t : Nat) (A : Option Addr) (c : Nat), t ≤ m ∧ i = .int .i64 t ∧ o = .slice A t c ∧ Own wr 0 A t c (little n t) ∧ OwnJ wr (w.alloc (.cells #[] 5)).heap.size X m cx (dgs n m) ∧ (∀ g, blkOf A = some g → blkOf X ≠ some g ∧ w.heap.size ≤ g) ∧ Below w.heap.size w wr) (fun _ i _ => m - (intOf i).toNat)
  case atStart => exact ⟨0, _, 0, Nat.zero_le _, rfl, rfl, ho1, HX.out, hne, hb1⟩
  case round =>
    obtain ⟨t, A, c, ht, rfl, rfl, hown, hox, hnx, hbw⟩ := hrel
    by_cases hlt : t < m
    · obtain ⟨g, hl, hX, _, hcell⟩ := hox.at_ (k := t) hlt
      subst hX
      rw [dgs_get] at hcell
      obtain ⟨d, hd⟩ : ∃ d, d = n / 256 ^ t % 256 := ⟨_, rfl⟩
      have hd256 : d < 256 := by omega
      rw [← hd] at hcell
      have hw8 : IntKind.u8.wrap (d : Int) = (d : Int) := by rw [IntKind.wrap_u8]; omega
      have hdu : (d : Int) = ((UInt8.ofNat (n / 256 ^ t)).toNat : Int) := by rw [ofNat_toNat, hd]
      have HD := Lib.hid hdu
      have HO := Lib.hid (And.intro hown (And.intro hox hnx))
      clear hown hox hnx hd hdu hne
      go_wp2_with (at_builtin; refine app8_fr wr rfl _ _ rfl A t c (little n t) _ _ HD.out rfl rfl HO.out.1 (by omega) ?_; intro A2 c2 w2 ho2 hf2 hn2)
      go_roundw
      case rel =>
        obtain ⟨hown, hox, hnx⟩ := HO.out
        refine ⟨t + 1, A2, c2, by omega, by go_num, rfl, by rw [little_snoc]; exact ho2, hox.frm hf2 (fun g' hg' e => (hnx g' e).1 hg'), fun g' hg' => ?_, below_frm hbw hf2 (fun i hi => (hnx i hi).2)⟩
        rcases hn2 g' hg' with h | h
        · exact hnx g' h
        · refine ⟨fun e => ?_, Nat.le_trans hbw.size h⟩
          have := (hox.lt e).1
          omega
      case measure => simp [intOf]; omega
    · have e : t = m := by omega
      subst e
      have hcv := conv8 wr A t c _ hown.rd
      clear hown hox hnx
      go_wp2
      go_ret
      exact ⟨rfl, hbw⟩
set_option maxRecDepth 100000 in
theorem bstr_size (l : List UInt8) : (⟨l.toArray⟩ : ByteArray).size = l.length := by simp [ByteArray.size]
set_option maxRecDepth 100000 in
theorem bstr_add (x y : List UInt8) (hx : x.length ≤ 8388608) (hy : y.length ≤ 8388608) (W : World) : (Op.stringOp .add ⟨x.toArray⟩ ⟨y.toArray⟩).run Try.prog W = .ok (.string ⟨(x ++ y).toArray⟩) W :=
  run_string_add_lists W x y (by omega) (by omega)
set_option maxRecDepth 100000 in
set_option maxHeartbeats 1000000 in
theorem nvar_calls (n : Nat) (hn : n < 18446744073709551616) (w : World) :
    Calls Try.prog 42 #[.int .u64 (n : Int)] w (Ret w (.string ⟨(cnt n).toArray⟩)) := by
  obtain ⟨sc, hsc⟩ : ∃ sc : ByteArray, sc = ⟨(cnt n).toArray⟩ := ⟨_, rfl⟩
  rw [← hsc]
  by_cases h1 : n < 253
  · have CN : Hid (∀ W, Calls Try.prog 49 #[.int .u64 (n : Int), .int .i64 1] W (Ret W (.string sc))) := Lib.hid fun W => by
      have hc := nnum_calls n 1 1 (by decide) hn W
      rw [show little n 1 = cnt n from by unfold cnt headB more; rw [if_pos h1, if_pos h1]; simp [little]] at hc
      rw [hsc]
      exact hc
    clear hsc hn
    go_enter Try.func42, Try.ntmps42
    go_wp2_with (go_at_call 49; refine (CN.out _).mono ?_; rintro e' w1 ⟨rfl, hb1⟩)
    go_ret
    exact ⟨rfl, hb1⟩
  · by_cases h2 : n < 65536
    · have hc0 : cnt n = [253] ++ little n 2 := by unfold cnt headB more; rw [if_neg h1, if_pos h2, if_neg h1, if_pos h2]; rfl
      obtain ⟨s2, hs2⟩ : ∃ s2 : ByteArray, s2 = ⟨(little n 2).toArray⟩ := ⟨_, rfl⟩
      have CN : Hid (∀ W, Calls Try.prog 49 #[.int .u64 (n : Int), .int .i64 2] W (Ret W (.string s2))) := Lib.hid fun W => by rw [hs2]; exact nnum_calls n 2 2 (by decide) hn W
      have hcat : Hid ((⟨#[253]⟩ : ByteArray) ++ s2 = sc) := Lib.hid (by rw [hs2, hsc, hc0]; exact ByteArray.mk_append_mk _ _)
      have hss : s2.size = 2 := by rw [hs2, bstr_size, little_len]
      clear hsc hn hs2 hc0
      have i1 : ¬ (n : Int) < 253 := by omega
      have i2 : (n : Int) < 65536 := by omega
      clear h1 h2
      go_enter Try.func42, Try.ntmps42
      go_wp2_with (go_at_call 49; refine (CN.out _).mono ?_; rintro e' w1 ⟨rfl, hb1⟩)
      go_ret
      exact ⟨congrArg (fun s => Ending.returned (.string s)) hcat.out, hb1⟩
    · by_cases h3 : n < 4294967296
      · have hc0 : cnt n = [254] ++ little n 4 := by unfold cnt headB more; rw [if_neg h1, if_neg h2, if_pos h3, if_neg h1, if_neg h2, if_pos h3]; rfl
        obtain ⟨s2, hs2⟩ : ∃ s2 : ByteArray, s2 = ⟨(little n 4).toArray⟩ := ⟨_, rfl⟩
        have CN : Hid (∀ W, Calls Try.prog 49 #[.int .u64 (n : Int), .int .i64 4] W (Ret W (.string s2))) := Lib.hid fun W => by rw [hs2]; exact nnum_calls n 4 4 (by decide) hn W
        have hcat : Hid ((⟨#[254]⟩ : ByteArray) ++ s2 = sc) := Lib.hid (by rw [hs2, hsc, hc0]; exact ByteArray.mk_append_mk _ _)
        have hss : s2.size = 4 := by rw [hs2, bstr_size, little_len]
        clear hsc hn hs2 hc0
        have i1 : ¬ (n : Int) < 253 := by omega
        have i2 : ¬ (n : Int) < 65536 := by omega
        have i3 : (n : Int) < 4294967296 := by omega
        clear h1 h2 h3
        go_enter Try.func42, Try.ntmps42
        go_wp2_with (go_at_call 49; refine (CN.out _).mono ?_; rintro e' w1 ⟨rfl, hb1⟩)
        go_ret
        exact ⟨congrArg (fun s => Ending.returned (.string s)) hcat.out, hb1⟩
      · have hc0 : cnt n = [255] ++ little n 8 := by unfold cnt headB more; rw [if_neg h1, if_neg h2, if_neg h3, if_neg h1, if_neg h2, if_neg h3]; rfl
        obtain ⟨s2, hs2⟩ : ∃ s2 : ByteArray, s2 = ⟨(little n 8).toArray⟩ := ⟨_, rfl⟩
        have CN : Hid (∀ W, Calls Try.prog 49 #[.int .u64 (n : Int), .int .i64 8] W (Ret W (.string s2))) := Lib.hid fun W => by rw [hs2]; exact nnum_calls n 8 8 (by decide) hn W
        have hcat : Hid ((⟨#[255]⟩ : ByteArray) ++ s2 = sc) := Lib.hid (by rw [hs2, hsc, hc0]; exact ByteArray.mk_append_mk _ _)
        have hss : s2.size = 8 := by rw [hs2, bstr_size, little_len]
        clear hsc hn hs2 hc0
        have i1 : ¬ (n : Int) < 253 := by omega
        have i2 : ¬ (n : Int) < 65536 := by omega
        have i3 : ¬ (n : Int) < 4294967296 := by omega
        clear h1 h2 h3
        go_enter Try.func42, Try.ntmps42
        go_wp2_with (go_at_call 49; refine (CN.out _).mono ?_; rintro e' w1 ⟨rfl, hb1⟩)
        go_ret
        exact ⟨congrArg (fun s => Ending.returned (.string s)) hcat.out, hb1⟩
end Go.Proofs.Ythkkllcpogagiaa
