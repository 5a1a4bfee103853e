/- Merged texts: CodN CodV CodI CodB CodC CodD. -/
import Derived.Test.YthkkllcpogagiaaDoorMao
import Derived.Test.YthkkllcpogagiaaDoorMal
import Derived.Laws.Concat
import Derived.Laws.DeepStrings4
import Derived.Deep.RegionHeld3
import Derived.Test.YthkkllcpogagiaaDoorMaj
import Derived.Deep.CutRange
import Derived.Deep.DeepCutAuto
/- Contracts of the document's own Num, Var, Text of layer 6: bytes as strings. -/
namespace Go.Proofs.YthkkllcpogagiaaDoor
open Go.RowKit
set_option linter.unusedVariables false

set_option maxRecDepth 100000 in
theorem OwnJ.lt {w : World} {base n c : Nat} {A : Option Addr} {l : List Int} (h : OwnJ w base A n c l) {g : Nat} (hg : blkOf A = some g) : g < w.heap.size ∧ base ≤ g := by
  rcases h.2.2 with ⟨hv, _⟩ | ⟨g', cap, cur, hv, hb, hh, _⟩
  · injection hv with e1; rw [e1] at hg; simp [blkOf] at hg
  · injection hv with e1
    rw [e1] at hg
    simp [blkOf] at hg
    subst hg
    exact ⟨(Array.getElem?_eq_some_iff.1 hh).1, hb⟩
set_option maxRecDepth 100000 in
theorem OwnJ.frm {w w' : World} {base n c : Nat} {A : Option Addr} {l : List Int} {S : Nat → Prop} (h : OwnJ w base A n c l) (hf : Frm S w w') (hS : ∀ g, blkOf A = some g → ¬ S g) : OwnJ w' base A n c l := by
  have hlt := fun g (hg : blkOf A = some g) => h.lt hg
  obtain ⟨h1, h2, h3⟩ := h
  refine ⟨h1, h2, ?_⟩
  rcases h3 with h' | ⟨g, cap, cur, e, hb, hh, hr⟩
  · exact .inl h'
  · refine .inr ⟨g, cap, cur, e, hb, ?_, hr⟩
    injection e with e1
    have hA : blkOf A = some g := by rw [e1]; rfl
    rw [hf.block g (hlt g hA).1 (hS g hA)]; exact hh
set_option maxRecDepth 100000 in
/-- append(out, u) at a byte slice that the call made: nothing but its own block has changed. -/
theorem app8_fr {ops : Array Oper} {rest : List Oper} {o : Oper} {a : Act} {Q : Exit → Act → World → Prop} (w : World) (hgd : o.guard = none) (s x : Operand)
    (ho : o.op = .call { callee := .builtin .append, args := #[s, x], argTypes := #[28, 28] })
    (A : Option Addr) (n c : Nat) (l : List UInt8) (z : Int) (u : UInt8) (hz : z = (u.toNat : Int)) (hs : a.eval s = .slice A n c) (hx : a.eval x = .slice (some ⟨w.heap.size, 0, none⟩) 1 1)
    (hown : Own w 0 A n c l) (hb : n + 1 ≤ 140737488355328)
    (h : ∀ A' c' w', Own w' 0 A' (n + 1) c' (l ++ [u]) → Frm (fun i => blkOf A = some i) w w' → (∀ g, blkOf A' = some g → blkOf A = some g ∨ w.heap.size ≤ g) → wpList Tryd.prog ops Q rest (a.put o.dst (.slice A' (n + 1) c')) w') :
    wpList Tryd.prog ops Q (o :: rest) a (w.alloc (.cells #[.int .u8 z] 5)) := by
  subst hz
  refine wpList_plain hgd fun _ hK => wpo_appG _ s x 28 ho 5 (.int .u8 0) 1 Tryd.underlying28 info8 rfl 0 _ n (l.map B8) hs (own_alloc hown.2 _) _ 1 1 [B8 u] hx rfl ?_ ?_ (by unfold maxLen; omega) (by omega) (Nat.zero_le _) ?_
  · intro _
    refine ⟨_, rfl, fun j v hj => ?_⟩
    have hp : (⟨w.heap.size, 0, none⟩ : Addr).add j = ⟨w.heap.size, j, none⟩ := by unfold Addr.add; split <;> simp_all
    rw [hp, cell_of_row _ w.heap.size j _ 5 (0, 0) (heap_alloc_new w _)]
    simpa [B8] using hj
  · intro v hv; simp at hv; subst hv; rfl
  · intro A' c' w' hown' _ hbk hgr
    have hf : Frm (fun i => blkOf A = some i) w w' := ((Frm.refl _ w).alloc _).trans (frm_grown hgr)
    rw [own_blkOf, own_blkOf] at hbk
    refine hK _ _ (h A' c' w' ⟨by simp [hown.1], by rw [List.map_append]; exact hown'⟩ hf (fun g hg => ?_))
    rcases hbk with e | e
    · exact .inl (e ▸ hg)
    · rw [e] at hg; injection hg with hg; exact .inr (by simp at hg; omega)
set_option maxRecDepth 100000 in
theorem dgs_get (n m t : Nat) (h : t < (dgs n m).length) : (dgs n m)[t] = ((n / 256 ^ t % 256 : Nat) : Int) := by simp [dgs]
set_option maxRecDepth 100000 in
theorem dgs_len (n m : Nat) : (dgs n m).length = m := by simp [dgs]
set_option maxRecDepth 100000 in
theorem little_snoc (n t : Nat) : little n (t + 1) = little n t ++ [UInt8.ofNat (n / 256 ^ t)] := by simp [little, List.range_succ]
set_option maxRecDepth 100000 in
set_option maxHeartbeats 1000000 in
theorem nnum_calls (n : Nat) (k : Int) (m : Nat) (hm : cw k = m) (hn : n < 18446744073709551616) (w : World) :
    Calls Tryd.prog 19 #[.int .u64 (n : Int), .int .i64 k] w (Ret w (.string ⟨(little n m).toArray⟩)) := by
  have hm8 : m ≤ 8 := by have := cw_bd k; omega
  have HM := Lib.hid hm
  have CD : Hid (∀ W, Calls Tryd.prog 34 #[.int .u64 (n : Int), .int .i64 (m : Int)] W (MkI W (dgs n m))) := Lib.hid fun W => digits_calls n m hn (by omega) W
  clear hm hn
  go_enter Tryd.func19, Tryd.ntmps19
  go_wp2_with fail
  refine (held_nat _ _ HM.out _).mono ?_
  rintro e' w' ⟨rfl, rfl⟩
  go_wp2_with fail
  refine (CD.out _).mono ?_
  rintro e' w1 ⟨X, nx, cx, rfl, hox, hbx⟩
  have hl := hox.1
  rw [dgs_len] at hl
  subst hl
  have he := own_empty w
  have hbe : Below w.heap.size w (w.alloc (.cells #[] 5)) := below_al (Below.refl _ w) _
  have ho1 : Own w1 0 (some ⟨w.heap.size, 0, none⟩) 0 0 [] := (Own.frm he (S := fun _ => False) (Frm.of_below hbx) (fun _ _ h => h)).base (fun _ _ => Nat.zero_le _)
  have hb1 : Below w.heap.size w w1 := below_more hbe hbx
  have hne : ∀ g, blkOf (some (⟨w.heap.size, 0, none⟩ : Addr)) = some g → blkOf X ≠ some g ∧ w.heap.size ≤ g := fun g hg => by
    simp [blkOf] at hg
    subst hg
    refine ⟨fun e => ?_, Nat.le_refl _⟩
    have := (hox.lt e).2
    simp at this
    omega
  have HX := Lib.hid hox
  clear hox hbx he hbe
  go_wp2
  go_loopw [5, 14] (fun o i wr => ∃ (t : Nat) (A : Option Addr) (c : Nat), t ≤ m ∧ i = .int .i64 t ∧ o = .slice A t c ∧ Own wr 0 A t c (little n t) ∧ OwnJ wr (w.alloc (.cells #[] 5)).heap.size X m cx (dgs n m) ∧ (∀ g, blkOf A = some g → blkOf X ≠ some g ∧ w.heap.size ≤ g) ∧ Below w.heap.size w wr) (fun _ i _ => m - (intOf i).toNat)
  case atStart => exact ⟨0, _, 0, Nat.zero_le _, rfl, rfl, ho1, HX.out, hne, hb1⟩
  case round =>
    obtain ⟨t, A, c, ht, rfl, rfl, hown, hox, hnx, hbw⟩ := hrel
    by_cases hlt : t < m
    · obtain ⟨g, hl, hX, _, hcell⟩ := hox.at_ (k := t) hlt
      subst hX
      rw [dgs_get] at hcell
      obtain ⟨d, hd⟩ : ∃ d, d = n / 256 ^ t % 256 := ⟨_, rfl⟩
      have hd256 : d < 256 := by omega
      rw [← hd] at hcell
      have hw8 : IntKind.u8.wrap (d : Int) = (d : Int) := by rw [IntKind.wrap_u8]; omega
      have hdu : (d : Int) = ((UInt8.ofNat (n / 256 ^ t)).toNat : Int) := by rw [ofNat_toNat, hd]
      have HD := Lib.hid hdu
      have HO := Lib.hid (And.intro hown (And.intro hox hnx))
      clear hown hox hnx hd hdu hne
      go_wp2_with (at_builtin; refine app8_fr wr rfl _ _ rfl A t c (little n t) _ _ HD.out rfl rfl HO.out.1 (by omega) ?_; intro A2 c2 w2 ho2 hf2 hn2)
      go_roundw
      case rel =>
        obtain ⟨hown, hox, hnx⟩ := HO.out
        refine ⟨t + 1, A2, c2, by omega, by go_num, rfl, by rw [little_snoc]; exact ho2, hox.frm hf2 (fun g' hg' e => (hnx g' e).1 hg'), fun g' hg' => ?_, below_frm hbw hf2 (fun i hi => (hnx i hi).2)⟩
        rcases hn2 g' hg' with h | h
        · exact hnx g' h
        · refine ⟨fun e => ?_, Nat.le_trans hbw.size h⟩
          have := (hox.lt e).1
          omega
      case measure => simp [intOf]; omega
    · have e : t = m := by omega
      subst e
      have hcv := conv8 wr A t c _ hown.rd
      clear hown hox hnx
      go_wp2
      go_ret
      exact ⟨rfl, hbw⟩
set_option maxRecDepth 100000 in
theorem bstr_size (l : List UInt8) : (⟨l.toArray⟩ : ByteArray).size = l.length := by simp [ByteArray.size]
set_option maxRecDepth 100000 in
theorem bstr_add (x y : List UInt8) (hx : x.length ≤ 8388608) (hy : y.length ≤ 8388608) (W : World) : (Op.stringOp .add ⟨x.toArray⟩ ⟨y.toArray⟩).run Tryd.prog W = .ok (.string ⟨(x ++ y).toArray⟩) W :=
  run_string_add_lists W x y (by omega) (by omega)
set_option maxRecDepth 100000 in
set_option maxHeartbeats 1000000 in
theorem nvar_calls (n : Nat) (hn : n < 18446744073709551616) (w : World) :
    Calls Tryd.prog 20 #[.int .u64 (n : Int)] w (Ret w (.string ⟨(cnt n).toArray⟩)) := by
  obtain ⟨sc, hsc⟩ : ∃ sc : ByteArray, sc = ⟨(cnt n).toArray⟩ := ⟨_, rfl⟩
  rw [← hsc]
  by_cases h1 : n < 253
  · have CN : Hid (∀ W, Calls Tryd.prog 19 #[.int .u64 (n : Int), .int .i64 1] W (Ret W (.string sc))) := Lib.hid fun W => by
      have hc := nnum_calls n 1 1 (by decide) hn W
      rw [show little n 1 = cnt n from by unfold cnt headB more; rw [if_pos h1, if_pos h1]; simp [little]] at hc
      rw [hsc]
      exact hc
    clear hsc hn
    go_enter Tryd.func20, Tryd.ntmps20
    go_wp2_with (go_at_call 19; refine (CN.out _).mono ?_; rintro e' w1 ⟨rfl, hb1⟩)
    go_ret
    exact ⟨rfl, hb1⟩
  · by_cases h2 : n < 65536
    · have hc0 : cnt n = [253] ++ little n 2 := by unfold cnt headB more; rw [if_neg h1, if_pos h2, if_neg h1, if_pos h2]; rfl
      obtain ⟨s2, hs2⟩ : ∃ s2 : ByteArray, s2 = ⟨(little n 2).toArray⟩ := ⟨_, rfl⟩
      have CN : Hid (∀ W, Calls Tryd.prog 19 #[.int .u64 (n : Int), .int .i64 2] W (Ret W (.string s2))) := Lib.hid fun W => by rw [hs2]; exact nnum_calls n 2 2 (by decide) hn W
      have hcat : Hid ((⟨#[253]⟩ : ByteArray) ++ s2 = sc) := Lib.hid (by rw [hs2, hsc, hc0]; exact ByteArray.mk_append_mk _ _)
      have hss : s2.size = 2 := by rw [hs2, bstr_size, little_len]
      clear hsc hn hs2 hc0
      have i1 : ¬ (n : Int) < 253 := by omega
      have i2 : (n : Int) < 65536 := by omega
      clear h1 h2
      go_enter Tryd.func20, Tryd.ntmps20
      go_wp2_with (go_at_call 19; refine (CN.out _).mono ?_; rintro e' w1 ⟨rfl, hb1⟩)
      go_ret
      exact ⟨congrArg (fun s => Ending.returned (.string s)) hcat.out, hb1⟩
    · by_cases h3 : n < 4294967296
      · have hc0 : cnt n = [254] ++ little n 4 := by unfold cnt headB more; rw [if_neg h1, if_neg h2, if_pos h3, if_neg h1, if_neg h2, if_pos h3]; rfl
        obtain ⟨s2, hs2⟩ : ∃ s2 : ByteArray, s2 = ⟨(little n 4).toArray⟩ := ⟨_, rfl⟩
        have CN : Hid (∀ W, Calls Tryd.prog 19 #[.int .u64 (n : Int), .int .i64 4] W (Ret W (.string s2))) := Lib.hid fun W => by rw [hs2]; exact nnum_calls n 4 4 (by decide) hn W
        have hcat : Hid ((⟨#[254]⟩ : ByteArray) ++ s2 = sc) := Lib.hid (by rw [hs2, hsc, hc0]; exact ByteArray.mk_append_mk _ _)
        have hss : s2.size = 4 := by rw [hs2, bstr_size, little_len]
        clear hsc hn hs2 hc0
        have i1 : ¬ (n : Int) < 253 := by omega
        have i2 : ¬ (n : Int) < 65536 := by omega
        have i3 : (n : Int) < 4294967296 := by omega
        clear h1 h2 h3
        go_enter Tryd.func20, Tryd.ntmps20
        go_wp2_with (go_at_call 19; refine (CN.out _).mono ?_; rintro e' w1 ⟨rfl, hb1⟩)
        go_ret
        exact ⟨congrArg (fun s => Ending.returned (.string s)) hcat.out, hb1⟩
      · have hc0 : cnt n = [255] ++ little n 8 := by unfold cnt headB more; rw [if_neg h1, if_neg h2, if_neg h3, if_neg h1, if_neg h2, if_neg h3]; rfl
        obtain ⟨s2, hs2⟩ : ∃ s2 : ByteArray, s2 = ⟨(little n 8).toArray⟩ := ⟨_, rfl⟩
        have CN : Hid (∀ W, Calls Tryd.prog 19 #[.int .u64 (n : Int), .int .i64 8] W (Ret W (.string s2))) := Lib.hid fun W => by rw [hs2]; exact nnum_calls n 8 8 (by decide) hn W
        have hcat : Hid ((⟨#[255]⟩ : ByteArray) ++ s2 = sc) := Lib.hid (by rw [hs2, hsc, hc0]; exact ByteArray.mk_append_mk _ _)
        have hss : s2.size = 8 := by rw [hs2, bstr_size, little_len]
        clear hsc hn hs2 hc0
        have i1 : ¬ (n : Int) < 253 := by omega
        have i2 : ¬ (n : Int) < 65536 := by omega
        have i3 : ¬ (n : Int) < 4294967296 := by omega
        clear h1 h2 h3
        go_enter Tryd.func20, Tryd.ntmps20
        go_wp2_with (go_at_call 19; refine (CN.out _).mono ?_; rintro e' w1 ⟨rfl, hb1⟩)
        go_ret
        exact ⟨congrArg (fun s => Ending.returned (.string s)) hcat.out, hb1⟩
set_option maxRecDepth 100000 in
set_option maxHeartbeats 1000000 in
theorem ntext_calls (l : List UInt8) (hl : l.length ≤ 1000000) (w : World) :
    Calls Tryd.prog 21 #[.string ⟨l.toArray⟩] w (Ret w (.string ⟨(cnt l.length ++ l).toArray⟩)) := by
  obtain ⟨N, hN⟩ : ∃ N, N = l.length := ⟨_, rfl⟩
  obtain ⟨s, hs⟩ : ∃ s : ByteArray, s = ⟨l.toArray⟩ := ⟨_, rfl⟩
  obtain ⟨sc, hsc⟩ : ∃ sc : ByteArray, sc = ⟨(cnt N).toArray⟩ := ⟨_, rfl⟩
  obtain ⟨sr, hsr⟩ : ∃ sr : ByteArray, sr = ⟨(cnt N ++ l).toArray⟩ := ⟨_, rfl⟩
  rw [← hN, ← hs, ← hsr]
  have hsz : s.size = N := by rw [hs, hN]; exact bstr_size l
  have hN6 : N ≤ 1000000 := by omega
  have CV : Hid (∀ W, Calls Tryd.prog 20 #[.int .u64 (N : Int)] W (Ret W (.string sc))) := Lib.hid fun W => by rw [hsc]; exact nvar_calls N (by omega) W
  have hadd : ∀ W, (Op.stringOp .add sc s).run Tryd.prog W = .ok (.string sr) W := fun W => by rw [hs, hsc, hsr]; exact bstr_add (cnt N) l (by have := more_le N; simp; omega) (by omega) W
  have hw : IntKind.u64.wrap (N : Int) = (N : Int) := by rw [IntKind.wrap_u64]; omega
  clear hs hsc hsr hN
  go_enter Tryd.func21, Tryd.ntmps21
  go_wp2_with (go_at_call 20; refine (CV.out _).mono ?_; rintro e' w1 ⟨rfl, hb1⟩)
  go_ret
  exact ⟨rfl, hb1⟩
end Go.Proofs.YthkkllcpogagiaaDoor

/- Contracts of the document's own Take of layer 6. -/
namespace Go.Proofs.YthkkllcpogagiaaDoor
open Go.RowKit
set_option linter.unusedVariables false

set_option maxRecDepth 100000 in
theorem bstr_from (l : List UInt8) (a N : Nat) (h : l.length = N) : (⟨l.toArray⟩ : ByteArray).extract a N = ⟨(l.drop a).toArray⟩ := by
  rw [ByteArray.extract_mk, List.take_of_length_le (by rw [List.length_drop]; omega)]
set_option maxRecDepth 100000 in
theorem bstr_upto (l : List UInt8) (b : Nat) : (⟨l.toArray⟩ : ByteArray).extract 0 b = ⟨(l.take b).toArray⟩ := by
  rw [ByteArray.extract_mk, List.drop_zero, Nat.sub_zero]
set_option maxRecDepth 100000 in
theorem below2 (w : World) (o1 o2 : Obj) : Below w.heap.size w ((w.alloc o1).alloc o2) := below_al (below_al (Below.refl _ w) _) _
set_option maxRecDepth 100000 in
theorem tk_ok (l : List UInt8) (n : Nat) (h : n ≤ l.length) : tkV l 0 n = l.take n ∧ tkL l 0 n = l.drop n ∧ tkE l 0 n = 0 := by simp [tkV, tkL, tkE, h]
set_option maxRecDepth 100000 in
theorem tk_short (l : List UInt8) (n : Nat) (h : l.length < n) : tkV l 0 n = [] ∧ tkL l 0 n = l ∧ tkE l 0 n = 2 := by
  have h' : ¬ n ≤ l.length := by omega
  simp [tkV, tkL, tkE, h']
set_option maxRecDepth 100000 in
theorem tk_err (l : List UInt8) (e n : Nat) (h : e ≠ 0) : tkV l e n = [] ∧ tkL l e n = l ∧ tkE l e n = e := by simp [tkV, tkL, tkE, h]
end Go.Proofs.YthkkllcpogagiaaDoor

/- Words for the document's own readers of layer 6: what is left and the error, as a struct by value. -/
namespace Go.Proofs.YthkkllcpogagiaaDoor
open Go.RowKit
set_option linter.unusedVariables false

/-- The cells of what is left and the error. -/
def inC (l : List UInt8) (e : Nat) : List Value := [.string ⟨l.toArray⟩, .int .i64 (e : Int)]
def zerosI : List Value := [.string ⟨#[]⟩, .int .i64 0]
set_option maxRecDepth 100000 in
theorem inC_one (l : List UInt8) (e : Nat) : ∀ v ∈ inC l e, v.oneCell' = true := by
  intro v hv
  simp only [inC, List.mem_cons, List.not_mem_nil, or_false] at hv
  rcases hv with rfl | rfl <;> rfl
set_option maxRecDepth 100000 in
/-- A whole struct is stored into its block: one operation. -/
theorem wp_store_in {P : Program} {op : Oper} {a : Act} {w : World} {K : Act → World → Prop} {Q : Exit → Act → World → Prop} (ty : TypeId) (x y : Operand) (ho : op.op = .store ty x y)
    (g : Nat) (cs0 cells : List Value) (t : TypeId) (hx : a.eval x = .pointer (some ⟨g, 0, none⟩)) (hy : a.eval y = .agg cells.toArray) (hb : Blk w g cs0 t) (hl : cs0.length = cells.length)
    (hi : (P.info? ty).map (·.size) = some cells.length) (h1 : ∀ v ∈ cells, v.oneCell' = true)
    (h : ∀ w2, Blk w2 g cells t → Only g w w2 → K (a.put op.dst undef) w2) : op.wp P a w K Q := by
  refine wp_store_mid ty x y ho g 0 cells.toArray hx hy (hb.there 0 _ (by rw [List.size_toArray]; omega)) (by rw [List.size_toArray]; exact hi) (all_oneCell_toArray h1) ?_
  have hs := Blk.setCells cells w cs0 0 hb (by omega)
  rw [over_all _ _ hl] at hs
  exact h _ hs (Only.setCells _ _ _ _ (Only.refl g w))
set_option maxRecDepth 100000 in
/-- Results: a struct and a slot. -/
theorem results_in {P : Program} {fn : Func} {p u : Tmp} {ty : TypeId} (h : fn.results = #[.cell p ty, .tmp u]) (tmps : Array Value) (w : World) (g : Nat) (t : TypeId) (cs : Array Value) (fr : Nat × Nat) (d : TypeDesc) (x : Value)
    (hp : tmps.getD p undef = .pointer (some ⟨g, 0, none⟩)) (hx : tmps.getD u undef = x) (hg : w.heap[g]? = some (.cells cs t fr))
    (hu : P.underlying ty = some d) (hd : (match d with | .struct _ | .array _ _ => true | _ => false) = true) (hi : (P.info? ty).map (·.size) = some cs.size) :
    (results fn tmps).run P w = .ok (.tuple #[.agg cs, x]) w := by
  have hp' : tmps[p]?.getD undef = .pointer (some ⟨g, 0, none⟩) := by simpa using hp
  have hx' : tmps[u]?.getD undef = x := by simpa using hx
  simp [results, h, hp', hx', asAddr, run_loadVar_row w g t ty cs fr d hg hu hd hi]
set_option maxRecDepth 100000 in
/-- Results: a struct or an array alone. -/
theorem results_one {P : Program} {fn : Func} {p : Tmp} {ty : TypeId} (h : fn.results = #[.cell p ty]) (tmps : Array Value) (w : World) (g : Nat) (t : TypeId) (cs : Array Value) (fr : Nat × Nat) (d : TypeDesc)
    (hp : tmps.getD p undef = .pointer (some ⟨g, 0, none⟩)) (hg : w.heap[g]? = some (.cells cs t fr))
    (hu : P.underlying ty = some d) (hd : (match d with | .struct _ | .array _ _ => true | _ => false) = true) (hi : (P.info? ty).map (·.size) = some cs.size) :
    (results fn tmps).run P w = .ok (.agg cs) w := by
  have hp' : tmps[p]?.getD undef = .pointer (some ⟨g, 0, none⟩) := by simpa using hp
  simp [results, h, hp', asAddr, run_loadVar_row w g t ty cs fr d hg hu hd hi]
set_option maxRecDepth 100000 in
theorem below_dr {w W : World} (h : Below w.heap.size w W) : Below w.heap.size w W.drew := h.drew
set_option maxRecDepth 100000 in
theorem below_only {w W W' : World} {g : Nat} (h : Below w.heap.size w W) (ho : Only g W W') (hg : w.heap.size ≤ g) : Below w.heap.size w W' := h.trans (ho.below hg)
set_option maxRecDepth 100000 in
theorem Blk.dr {w : World} {g : Nat} {cs : List Value} {t : TypeId} (h : Blk w g cs t) : Blk w.drew g cs t := h
set_option maxRecDepth 100000 in
theorem Blk.up {w W : World} {g : Nat} {cs : List Value} {t : TypeId} (h : Blk w g cs t) (hb : Below w.heap.size w W) : Blk W g cs t := h.below hb h.lt
set_option maxRecDepth 100000 in
/-- A text converted to bytes, as one step: the bytes are there, and what was there still stands. -/
theorem conv_text (w : World) (l : List UInt8) (hs : l.length ≤ 1000000) : ∃ A c w', (convert 9 28 (.string ⟨l.toArray⟩)).run Tryd.prog w = .ok (.slice A l.length c) w' ∧ Rd w' A l.length l ∧ Below w.heap.size w w' := by
  obtain ⟨c, row, h1, h2⟩ := conv_str w ⟨l.toArray⟩ (by rw [bstr_size]; unfold maxLen; omega)
  rw [bstr_size] at h1 h2
  exact ⟨_, c, _, h1, h2.rd, below_al (below_dr (Below.refl _ w)) _⟩
set_option maxRecDepth 100000 in
theorem sl_upto2 (s : ByteArray) (N n : Nat) (z : Int) (hz : z = (n : Int)) (hs : s.size = N) (h : n ≤ N) (W : World) : (Instr.slice 9 (.string s) none (some (.int .i64 z)) none).run Tryd.prog W = .ok (.string (s.extract 0 n)) W := by
  subst hz
  rw [run_slice_string_h (h0 := by omega) (h2 := by omega)]
  · simp
  · exact Tryd.underlying9
set_option maxRecDepth 100000 in
theorem sl_upto (s : ByteArray) (N n : Nat) (z : Int) (hz : z = (n : Int)) (hs : s.size = N) (h : n ≤ N) (W : World) : (Instr.sliceAt 9 (.string s) none (some (.int .i64 z)) none).run Tryd.prog W = .ok (.string (s.extract 0 n)) W := by
  rw [run_sliceAt_string _ _ _ _ _ _ Tryd.underlying9]
  exact sl_upto2 s N n z hz hs h W
end Go.Proofs.YthkkllcpogagiaaDoor

/- Contracts of the document's own Number, Count, Words of layer 6. -/
namespace Go.Proofs.YthkkllcpogagiaaDoor
open Go.RowKit
set_option linter.unusedVariables false
set_option linter.unusedSimpArgs false

end Go.Proofs.YthkkllcpogagiaaDoor

/- Contracts of the document's own Count of layer 6. -/
namespace Go.Proofs.YthkkllcpogagiaaDoor
open Go.RowKit
set_option linter.unusedVariables false
set_option linter.unusedSimpArgs false

end Go.Proofs.YthkkllcpogagiaaDoor

/- The contracts of the document's own Count and Words of layer 6. -/
namespace Go.Proofs.YthkkllcpogagiaaDoor
open Go.RowKit
set_option linter.unusedVariables false

set_option maxRecDepth 100000 in
theorem idx_str (c0 : UInt8) (r : List UInt8) (W : World) : (Instr.index 9 (.string ⟨(c0 :: r).toArray⟩) (.int .i64 0)).run Tryd.prog W = .ok (.int .u8 (c0.toNat : Int)) W := by
  simp [Instr.index, run_underlying Tryd.underlying9, asIntOf, go_sem]
  try rfl
set_option maxRecDepth 100000 in
theorem ext0 (c0 : UInt8) (r : List UInt8) (m : Nat) : (⟨(c0 :: r).toArray⟩ : ByteArray).extract 0 (1 + m) = ⟨(c0 :: r.take m).toArray⟩ := by
  rw [ByteArray.extract_mk, List.drop_zero, Nat.sub_zero, Nat.add_comm 1, List.take_succ_cons]
set_option maxRecDepth 100000 in
theorem ext1 (c0 : UInt8) (r : List UInt8) (m : Nat) : (⟨(c0 :: r).toArray⟩ : ByteArray).extract 1 (1 + m) = ⟨(r.take m).toArray⟩ := by
  rw [ByteArray.extract_mk, List.drop_succ_cons, List.drop_zero, Nat.add_sub_cancel_left]
set_option maxRecDepth 100000 in
theorem ext2 (c0 : UInt8) (r : List UInt8) (m : Nat) : (⟨(c0 :: r).toArray⟩ : ByteArray).extract (1 + m) (r.length + 1) = ⟨(r.drop m).toArray⟩ := by
  rw [bstr_from _ _ _ (by simp), Nat.add_comm 1, List.drop_succ_cons]
set_option maxRecDepth 100000 in
theorem first_cons (c : UInt8) (r : List UInt8) (most : Nat) : first (c :: r) most = if r.length < foll c then (0, 0, 2) else if foll c ≠ more (cval c r) then (0, 0, 3) else if most < cval c r then (0, 0, 4) else (cval c r, 1 + foll c, 0) := rfl
end Go.Proofs.YthkkllcpogagiaaDoor
