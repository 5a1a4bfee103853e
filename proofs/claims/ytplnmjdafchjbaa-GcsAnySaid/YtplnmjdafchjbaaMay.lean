/- Merged texts: GcsD GcsE GcsF. -/
import Derived.Test.YtplnmjdafchjbaaMax
import Derived.Test.YtplnmjdafchjbaaMaj
import Derived.Test.YtplnmjdafchjbaaMam
import Derived.Deep.RegionWith
/- The document's own answers of layer 13: a list's filter. -/
namespace Go.Proofs.Ytplnmjdafchjbaa
open Go.RowKit
set_option linter.unusedVariables false
set_option linter.unusedSimpArgs false

set_option maxRecDepth 100000 in
theorem stp_len (p : Int) : ∀ (N : List Nat) (b : Nat), (stp p b N).1.length ≤ stL p b N
  | [], b => by simp [stp, stL]
  | n :: r, b => by
    have ih := stp_len p r n
    have hk := hld_le p 32
    have hc := rcode_len p (n - b)
    rw [stp_cons, stL]
    split
    · simp
    · split
      · simp
      · rename_i h1 h2
        rw [if_pos (by omega)]
        unfold cmb
        split
        · simp
        · show (rcode p (n - b) ++ (stp p n r).1).length ≤ _
          rw [List.length_append]; omega
set_option maxRecDepth 100000 in
theorem stB_len (p : Int) (N : List Nat) (b : Nat) : (stB (stp p b N)).length ≤ stL p b N := by
  unfold stB
  split
  · simp
  · rw [pack_len]
    have := stp_len p N b
    rcases Nat.eq_zero_or_pos (stp p b N).1.length with h | h <;> omega
set_option maxRecDepth 100000 in
theorem RdR.rdN {w : World} {A : Option Addr} {n : Nat} {N : List Nat} (h : RdR w A n (N.map VN)) (h64 : ∀ x ∈ N, x < 18446744073709551616) : RdN w A n N := by
  refine ⟨by have := h.1; simpa using this, fun hn => ?_⟩
  obtain ⟨b, off, e, hb, hc⟩ := h.2 hn
  refine ⟨b, off, e, hb, fun j hj => ⟨?_, h64 _ (List.getElem_mem _)⟩⟩
  exact hc j _ (by rw [List.getElem?_map, List.getElem?_eq_getElem hj]; rfl)
set_option maxRecDepth 100000 in
theorem gnums_64 (k l : Nat) (L : List (List UInt8)) (hk : k < 2 ^ 64) (hl : l < 2 ^ 64) (hn : (once L).length ≤ 100000) : ∀ x ∈ gnums k l L, x < 18446744073709551616 := fun x hx => by
  have := gnums_lt k l L hk hl x hx
  omega
set_option maxRecDepth 100000 in
theorem gnums_stL (k l : Nat) (L : List (List UInt8)) (hk : k < 2 ^ 64) (hl : l < 2 ^ 64) (hn : (once L).length ≤ 1000) : stL 19 0 (gnums k l L) ≤ 100000 := by
  have h := stL_asc ((once L).length * 784931) (gnums k l L) 0 (gnums_lt k l L hk hl) (nums_asc k l L) (by omega)
  rw [gnums_len] at h
  omega

set_option maxRecDepth 100000 in
set_option maxHeartbeats 4000000 in
theorem gbuild_calls (k l : Nat) (A : Option Addr) (n c : Nat) (L : List (List UInt8)) (w : World) (hk : k < 2 ^ 64) (hl : l < 2 ^ 64) (hr : RdR w A n (L.map VT)) (hn : n ≤ 1000) (hL : ∀ t ∈ L, t.length ≤ 100000) :
    Calls Try.prog 12 #[.agg #[.int .u64 (k : Int), .int .u64 (l : Int)], .slice A n c] w (Ret w (.string ⟨(filt k l L).toArray⟩)) := by
  have hln : L.length = n := by have := hr.1; simpa using this
  have hml : (once L).length ≤ n := by rw [← hln]; exact once_len L
  obtain ⟨m, hm⟩ : ∃ z, z = (once L).length := ⟨_, rfl⟩
  obtain ⟨N, hN⟩ : ∃ z, z = gnums k l L := ⟨_, rfl⟩
  have CN : Hid (∀ W, Below w.heap.size w W → Calls Try.prog 28 #[.agg #[.int .u64 (k : Int), .int .u64 (l : Int)], .slice A n c] W fun e w' => ∃ A' c', e = .returned (.slice A' m c') ∧ RdN w' A' m N ∧ Below W.heap.size W w') := Lib.hid fun W hW => by
    refine (gnumbers_calls k l A n c L W hk hl (hr.below hW) (by omega) hL).mono ?_
    rintro e w' ⟨A', c', rfl, h1, h2⟩
    rw [← hN, ← hm] at h1
    rw [← hm]
    exact ⟨A', c', rfl, h1.rd.rdN (by rw [hN]; exact gnums_64 k l L hk hl (by omega)), h2⟩
  obtain ⟨B, hB⟩ : ∃ z, z = stB (stp 19 0 N) := ⟨_, rfl⟩
  obtain ⟨E, hE⟩ : ∃ z, z = (stp 19 0 N).2 := ⟨_, rfl⟩
  obtain ⟨s1, hs1⟩ : ∃ z : ByteArray, z = ⟨B.toArray⟩ := ⟨_, rfl⟩
  obtain ⟨s2, hs2⟩ : ∃ z : ByteArray, z = ⟨(cnt m).toArray⟩ := ⟨_, rfl⟩
  obtain ⟨s3, hs3⟩ : ∃ z : ByteArray, z = ⟨(filt k l L).toArray⟩ := ⟨_, rfl⟩
  have hst : stL 19 0 N ≤ 100000 := by rw [hN]; exact gnums_stL k l L hk hl (by omega)
  have CS : Hid (∀ A c W, RdN W A m N → Calls Try.prog 29 #[.int .i64 19, .slice A m c] W (Ret W (.tuple #[.string s1, .int .i64 (E : Int)]))) := Lib.hid fun A c W h => by
    rw [hs1, hB, hE]
    exact xsteps_calls 19 A m c N W h (by omega) hst
  have CV : Hid (∀ W, Calls Try.prog 30 #[.int .u64 (m : Int)] W (Ret W (.string s2))) := Lib.hid fun W => by rw [hs2]; exact nvar_calls m (by omega) W
  have hadd : ∀ W, (Op.stringOp .add s2 s1).run Try.prog W = .ok (.string s3) W := fun W => by
    have hBl := stB_len 19 N 0
    rw [← hB] at hBl
    have e : filt k l L = cnt m ++ B := by unfold filt; rw [hm, hB, hN]
    rw [hs1, hs2, hs3, e]
    exact bstr_add _ _ (by have := more_le m; rw [cnt_len]; omega) (by omega) W
  have u1 : IntKind.u64.wrap (m : Int) = (m : Int) := by rw [IntKind.wrap_u64]; omega
  have hk0 : Blk (w.alloc (.cells #[.int .u64 (k : Int), .int .u64 (l : Int)] 23)) w.heap.size [.int .u64 (k : Int), .int .u64 (l : Int)] 23 := Blk.new w _ _
  rw [← hs3]
  clear hr hs1 hs2 hs3 hB hE hst hN hm hml hln
  go_enter Try.func12, Try.ntmps12
  go_wp2_with (first
    | ((with_reducible refine at_load 23 (.tmp 2) ?_); refine wpList_load_mid rfl 23 (.tmp 2) rfl (w.heap.size) (0) (by first | rfl | simp [Act.eval]) [.int .u64 (k : Int), .int .u64 (l : Int)] _ (Blk.range hk0) Try.underlying23 rfl (by kernel_rfl) ?_)
    | (go_at_call 28; refine (CN.out _ (below_al (Below.refl _ w) _)).mono ?_; rintro e' w1 ⟨A1, c1, rfl, hr1, hB1⟩)
    | (go_at_call 29; refine (CS.out _ _ _ hr1).mono ?_; rintro e' w2 ⟨rfl, hB2⟩)
    | (go_at_call 30; refine (CV.out _).mono ?_; rintro e' w3 ⟨rfl, hB3⟩))
  go_ret
  exact ⟨rfl, below_more (below_more (below_more (below_al (Below.refl _ w) _) hB1) hB2) hB3⟩
set_option maxRecDepth 100000 in
theorem filt_len (k l : Nat) (L : List (List UInt8)) (hk : k < 2 ^ 64) (hl : l < 2 ^ 64) (h : (once L).length ≤ 1000) : (filt k l L).length ≤ 10000 := by
  unfold filt
  rw [List.length_append, cnt_len]
  have hst : (stp 19 0 (gnums k l L)).2 = 0 := (vgo_back ((once L).length * 784931) (by omega) (gnums k l L) 0 [] (gnums_lt k l L hk hl) (nums_asc k l L)).1
  have h1 : (stB (stp 19 0 (gnums k l L))).length ≤ (stL 19 0 (gnums k l L) + 7) / 8 := by
    unfold stB
    rw [if_neg (by rw [hst]; simp), pack_len]
    have := stp_len 19 (gnums k l L) 0
    omega
  have h2 := stL_asc ((once L).length * 784931) (gnums k l L) 0 (gnums_lt k l L hk hl) (nums_asc k l L) (by omega)
  rw [gnums_len] at h2
  have h3 : ((once L).length * 784931 - 0) / 2 ^ 19 ≤ (1000 * 784931) / 2 ^ 19 := Nat.div_le_div_right (by omega)
  have h4 : (1000 * 784931) / 2 ^ 19 = 1497 := by decide
  have h5 := more_le (once L).length
  omega
end Go.Proofs.Ytplnmjdafchjbaa

/- The document's own answers of layer 13: which items are matched. -/
namespace Go.Proofs.Ytplnmjdafchjbaa
open Go.RowKit
set_option linter.unusedVariables false
set_option linter.unusedSimpArgs false

set_option maxRecDepth 100000 in
/-- A whole array is read under a guard that holds. -/
theorem load_midH {P : Program} {ops : Array Oper} {rest : List Oper} {op : Oper} {a : Act} {w : World} {Q : Exit → Act → World → Prop} (hw : Region.wanted op (yielded ops a.tmps) = true) (ty : TypeId) (x : Operand) (ho : op.op = .load ty x)
    (b o : Nat) (hx : a.eval x = .pointer (some ⟨b, o, none⟩)) (cs : List Value) (d : TypeDesc) (hc : w.rangeAt b o cs)
    (hu : P.underlying ty = some d) (hd : d.isRow = true) (hi : (P.info? ty).map (·.size) = some cs.length)
    (h : wpList P ops Q rest (a.put op.dst (.agg cs.toArray)) w) : wpList P ops Q (op :: rest) a w := by
  unfold wpList
  rw [if_pos hw]
  exact Or.inl (wp_load_mid ty x ho b o hx cs d hc hu hd hi h)
set_option maxRecDepth 100000 in
theorem at_loadH {P : Program} {ops : Array Oper} {rest : List Oper} {Q : Exit → Act → World → Prop} {a : Act} {w : World} {dst : Option Tmp} {t : TypeId} {p : String} {af : Array Edge} {gd : Nat × Bool} (ty : TypeId) (x : Operand)
    (h : wpList P ops Q ({ dst := dst, op := .load ty x, type := t, pos := p, after := af, guard := some gd } :: rest) a w) : wpList P ops Q ({ dst := dst, op := .load ty x, type := t, pos := p, after := af, guard := some gd } :: rest) a w := h
set_option maxRecDepth 100000 in
theorem int_beq (u x : Nat) : ((u : Int) == (x : Int)) = decide (u = x) := by
  by_cases h : u = x
  · subst h; simp
  · rw [decide_eq_false h]
    exact beq_eq_false_iff_ne.2 (by omega)
/-- An index as a value. -/
def VI (x : Nat) : Value := .int .i64 (x : Int)
set_option maxRecDepth 100000 in
theorem infoI : (Try.prog.info? 3).map (fun i => (i.zero, i.size)) = some (some (VI 0), 1) := by kernel_rfl
set_option maxRecDepth 100000 in
theorem infoIb : (Try.prog.info? 3).map (fun i => (i.zero, i.size, i.bytes)) = some (some (VI 0), 1, 8) := by kernel_rfl
/-- Whether a number is among the first j of a list. -/
def amn (x : Nat) (N : List Nat) (j : Nat) : Bool := (N.take j).any fun y => decide (y = x)
set_option maxRecDepth 100000 in
theorem amn_succ (x : Nat) (N : List Nat) (j : Nat) (hj : j < N.length) : amn x N (j + 1) = (amn x N j || decide (N[j] = x)) := by
  unfold amn
  rw [List.take_add_one, List.getElem?_eq_getElem hj, List.any_append]
  simp
/-- Which of a list's items are matched by the numbers N. -/
def hit (k l : Nat) (N : List Nat) (t : List UInt8) : Bool := amn (numb k l N.length t) N N.length
def hits (k l : Nat) (N : List Nat) (L : List (List UInt8)) : List Nat := (List.range L.length).filter fun i => hit k l N (L.getD i [])
def hitsT (k l : Nat) (N : List Nat) (L : List (List UInt8)) (t : Nat) : List Nat := (List.range t).filter fun i => hit k l N (L.getD i [])
set_option maxRecDepth 100000 in
theorem hitsT_succ (k l : Nat) (N : List Nat) (L : List (List UInt8)) (t : Nat) (s : List UInt8) (h : L[t]? = some s) : hitsT k l N L (t + 1) = if hit k l N s then hitsT k l N L t ++ [t] else hitsT k l N L t := by
  unfold hitsT
  rw [List.range_succ, List.filter_append]
  have e : L.getD t [] = s := by rw [List.getD_eq_getElem?_getD, h]; rfl
  simp only [List.filter_cons, List.filter_nil, e]
  split
  · rfl
  · simp
set_option maxRecDepth 100000 in
theorem hitsT_len (k l : Nat) (N : List Nat) (L : List (List UInt8)) (t : Nat) : (hitsT k l N L t).length ≤ t := by
  have := List.length_filter_le (fun i => hit k l N (L.getD i [])) (List.range t)
  rw [List.length_range] at this
  exact this

set_option maxRecDepth 100000 in
set_option maxHeartbeats 4000000 in
theorem gany_calls (k l : Nat) (AN : Option Addr) (m cN : Nat) (N : List Nat) (A : Option Addr) (n c : Nat) (L : List (List UInt8)) (w : World) (hk : k < 2 ^ 64) (hl : l < 2 ^ 64) (hN : RdR w AN m (N.map VN)) (hr : RdR w A n (L.map VT)) (hm : m ≤ 1000) (hn : n ≤ 1000) (hL : ∀ t ∈ L, t.length ≤ 100000) :
    Calls Try.prog 18 #[.agg #[.int .u64 (k : Int), .int .u64 (l : Int)], .slice AN m cN, .slice A n c] w fun e w' => ∃ A' c', e = .returned (.slice A' (hits k l N L).length c') ∧ OwnR w' w.heap.size 3 A' (hits k l N L).length c' ((hits k l N L).map VI) ∧ Below w.heap.size w w' := by
  have hln : L.length = n := by have := hr.1; simpa using this
  have hNl : N.length = m := by have := hN.1; simpa using this
  have CN : Hid (∀ (W : World) (t : List UInt8), t ∈ L → Calls Try.prog 44 #[.agg #[.int .u64 (k : Int), .int .u64 (l : Int)], .string ⟨t.toArray⟩, .int .i64 (m : Int)] W (Ret W (.int .u64 (numb k l m t : Int)))) := Lib.hid fun W t ht =>
    gnumber_calls k l m t W hk hl (by omega) (hL t ht)
  have HR := Lib.hid hr
  have HN := Lib.hid hN
  have HLN := Lib.hid hln
  have HNL := Lib.hid hNl
  have hk0 : Blk (w.alloc (.cells #[.int .u64 (k : Int), .int .u64 (l : Int)] 23)) w.heap.size [.int .u64 (k : Int), .int .u64 (l : Int)] 23 := Blk.new w _ _
  obtain ⟨w0, hw0⟩ : ∃ z, z = w.alloc (.cells #[.int .u64 (k : Int), .int .u64 (l : Int)] 23) := ⟨_, rfl⟩
  have hB0 : Below w.heap.size w w0 := by rw [hw0]; exact below_al (Below.refl _ w) _
  have hs0 : w0.heap.size = w.heap.size + 1 := by rw [hw0]; simp
  rw [← hw0] at hk0
  have HW0 := Lib.hid hw0
  have HK0 := Lib.hid hk0
  have HB0 := Lib.hid hB0
  clear hr hN hL hw0 hk0 hB0 hln hNl
  go_enter Try.func18, Try.ntmps18
  go_wp2
  rw [← HW0.out]
  go_loopw [15, 7] (fun kv ov wr => ∃ (t p : Nat) (A1 : Option Addr) (c1 : Nat), kv = .int .i64 (t : Int) ∧ ov = .slice A1 p c1 ∧ t ≤ n ∧ p ≤ t ∧ OwnR wr w0.heap.size 3 A1 p c1 ((hitsT k l N L t).map VI) ∧ Below w0.heap.size w0 wr) (fun kv _ _ => n - (intOf kv).toNat)
  case atStart => exact ⟨0, 0, none, 0, by first | rfl | go_num, rfl, by omega, by omega, OwnR.nil _ _ _, Below.refl _ _⟩
  case round =>
    obtain ⟨t, p, A1, c1, rfl, rfl, htn, hpt, hown, hbel⟩ := hrel
    obtain ⟨wo, hwo⟩ : ∃ x, x = wr := ⟨_, rfl⟩
    rw [← hwo] at hown hbel ⊢
    clear hwo
    by_cases hlt : t < n
    · have hlt' : (t : Int) < (n : Int) := by omega
      have hBw : Below w.heap.size w wo := HB0.out.trans (hbel.mono (by omega))
      obtain ⟨b, off, hl, rfl, hb, sc⟩ := HR.out.at_ hlt
      have sc' := (hBw.cell (p := ⟨b, off + t, none⟩) hb).trans sc
      rw [List.getElem_map] at sc'
      have htL : t < L.length := by rw [HLN.out]; exact hlt
      have CNt : Hid (∀ (W : World), Calls Try.prog 44 #[.agg #[.int .u64 (k : Int), .int .u64 (l : Int)], .string ⟨L[t].toArray⟩, .int .i64 (m : Int)] W (Ret W (.int .u64 (numb k l m L[t] : Int)))) := Lib.hid fun W => CN.out W _ (List.getElem_mem _)
      have HSt : Hid (hitsT k l N L (t + 1) = if amn (numb k l m L[t]) N m then hitsT k l N L t ++ [t] else hitsT k l N L t) := Lib.hid (by
        rw [hitsT_succ k l N L t L[t] (List.getElem?_eq_getElem htL)]
        unfold hit
        rw [HNL.out])
      obtain ⟨x, hx⟩ : ∃ z, z = numb k l m L[t] := ⟨_, rfl⟩
      rw [← hx] at CNt HSt
      obtain ⟨S, hS⟩ : ∃ z : ByteArray, z = ⟨L[t].toArray⟩ := ⟨_, rfl⟩
      have sc2 : wo.cell? ⟨b, off + t, none⟩ = some (.string S) := by rw [hS]; exact sc'
      rw [← hS] at CNt
      have HKo : Hid (Blk wo w.heap.size [.int .u64 (k : Int), .int .u64 (l : Int)] 23) := Lib.hid ((hbel.block w.heap.size (by omega)).trans HK0.out)
      have HOW := Lib.hid hown
      have HBW := Lib.hid hBw
      have HBL := Lib.hid hbel
      have hws : w.heap.size < wo.heap.size := by have := hbel.size; omega
      clear sc sc' hS hx hl hown hBw hbel hb
      go_wp2
      go_loopw [22, 10] (fun jv fv wr => ∃ (j : Nat), jv = .int .i64 (j : Int) ∧ fv = .bool (amn x N j) ∧ j ≤ m ∧ Below wo.heap.size wo wr) (fun jv _ _ => m - (intOf jv).toNat)
      case atStart => exact ⟨0, by first | rfl | go_num, rfl, by omega, Below.refl _ _⟩
      case round =>
        obtain ⟨j, rfl, rfl, hjm, hbel⟩ := hrel
        obtain ⟨wq, hwq⟩ : ∃ x, x = wr := ⟨_, rfl⟩
        rw [← hwq] at hbel ⊢
        clear hwq
        by_cases hjt : j < m
        · have hjt' : (j : Int) < (m : Int) := by omega
          obtain ⟨b2, off2, hl2, rfl, hb2, sc3⟩ := HN.out.at_ hjt
          rw [List.getElem_map] at sc3
          have HA := Lib.hid (amn_succ x N j (by rw [HNL.out]; omega))
          obtain ⟨f, hf⟩ : ∃ z, z = amn x N j := ⟨_, rfl⟩
          rw [← hf] at HA ⊢
          obtain ⟨u, hu⟩ : ∃ z, z = N[j]'(by rw [HNL.out]; omega) := ⟨_, rfl⟩
          rw [← hu] at sc3 HA
          have hBq : Below w.heap.size w wq := HBW.out.trans (hbel.mono (by omega))
          have sc4 : wq.cell? ⟨b2, off2 + j, none⟩ = some (.int .u64 (u : Int)) := (hBq.cell (p := ⟨b2, off2 + j, none⟩) hb2).trans sc3
          have hkq : Blk wq w.heap.size [.int .u64 (k : Int), .int .u64 (l : Int)] 23 := (hbel.block w.heap.size hws).trans HKo.out
          have HBQ := Lib.hid hbel
          clear sc3 hf hu hBq hbel hb2 sc2
          cases f with
          | true =>
            go_wp2
            go_roundw
            case rel => exact ⟨j + 1, by go_num, by rw [HA.out, Bool.true_or], by omega, HBQ.out⟩
            case measure => simp [intOf]; omega
          | false =>
            go_wp2_with (first
              | ((with_reducible refine at_loadH 23 (.tmp 3) ?_); refine load_midH ?_ 23 (.tmp 3) rfl w.heap.size 0 (by first | rfl | simp [Act.eval, Act.put]) [.int .u64 (k : Int), .int .u64 (l : Int)] _ (Blk.range hkq) Try.underlying23 rfl (by kernel_rfl) ?_; (focus (simp [Region.wanted, yielded, Act.put]; done)))
              | (go_at_call 44; refine (CNt.out _).mono ?_; rintro e' w3 ⟨rfl, d3⟩))
            go_roundw
            case rel => exact ⟨j + 1, by go_num, by rw [HA.out, Bool.false_or]; exact congrArg Value.bool (int_beq u x), by omega, below_more HBQ.out d3⟩
            case measure => simp [intOf]; omega
        · have hjt' : ¬ (j : Int) < (m : Int) := by omega
          have e : j = m := by omega
          rw [e]
          have HOQ : Hid (OwnR wq w0.heap.size 3 A1 p c1 ((hitsT k l N L t).map VI)) := Lib.hid (HOW.out.up hbel)
          have HBQ : Hid (Below w0.heap.size w0 wq) := Lib.hid (below_more HBL.out hbel)
          clear hbel sc2
          obtain ⟨f, hf⟩ : ∃ z, z = amn x N m := ⟨_, rfl⟩
          rw [← hf] at HSt ⊢
          clear hf
          cases f with
          | true =>
            have HN2 : Hid ((hitsT k l N L (t + 1)).map VI = (hitsT k l N L t).map VI ++ [VI t]) := Lib.hid (by rw [HSt.out, if_pos rfl, List.map_append]; rfl)
            go_wp2_with (first
              | ((with_reducible refine at_bsX 43 1 #[(0, .tmp 39)] ?_); refine wpList_bsR rfl 43 3 (VI 0) (VI t) Try.underlying43 infoI rfl rfl (.tmp 39) rfl (by first | rfl | simp [Act.eval]) ?_; intro g w1 hb1 hg1 hl1 hB1)
              | ((with_reducible refine at_appX 43 (.tmp 38) (.tmp 40) ?_); refine wpList_appR rfl 43 3 (VI 0) 8 Try.underlying43 infoIb rfl (by decide) (.tmp 38) (.tmp 40) rfl w0.heap.size w0 (below_more HBQ.out hB1) (Nat.le_refl _) A1 p c1 ((hitsT k l N L t).map VI) (by first | rfl | simp [Act.eval]) (HOQ.out.up hB1) _ 1 1 [VI t] (by first | rfl | simp [Act.eval]) hb1.rdR (fun u hu => by rw [List.mem_singleton.1 hu]; rfl) (by omega) ?_; intro A3 c3 w2 ho2 hf2 hB2))
            go_roundw
            case rel => exact ⟨t + 1, p + 1, A3, c3, by go_num, rfl, by omega, by omega, by rw [HN2.out]; exact ho2, hB2⟩
            case measure => simp [intOf]; omega
          | false =>
            have HN2 : Hid (hitsT k l N L (t + 1) = hitsT k l N L t) := Lib.hid (by rw [HSt.out]; rfl)
            go_wp2
            go_roundw
            case rel => exact ⟨t + 1, p, A1, c1, by go_num, rfl, by omega, by omega, by rw [HN2.out]; exact HOQ.out, HBQ.out⟩
            case measure => simp [intOf]; omega
    · have hlt' : ¬ (t : Int) < (n : Int) := by omega
      have e : t = n := by omega
      subst e
      have hh : hitsT k l N L t = hits k l N L := by unfold hitsT hits; rw [HLN.out]
      rw [hh] at hown
      have hp : (hits k l N L).length = p := by have := hown.1; simpa using this
      have HB : Hid (Below w.heap.size w wo) := Lib.hid (HB0.out.trans (hbel.mono (by omega)))
      clear hbel hh
      go_wp2
      go_ret
      subst hp
      exact ⟨A1, c1, rfl, hown.low (by omega), HB.out⟩
end Go.Proofs.Ytplnmjdafchjbaa

/- The document's own answers of layer 13: a filter's numbers. -/
namespace Go.Proofs.Ytplnmjdafchjbaa
open Go.RowKit
set_option linter.unusedVariables false
set_option linter.unusedSimpArgs false

/-- Numbers, and what follows. -/
def cmbG (V : List Nat) (r : List Nat × Nat × List Bool) : List Nat × Nat × List Bool := if r.2.1 ≠ 0 then ([], r.2) else (V ++ r.1, r.2)
set_option maxRecDepth 100000 in
theorem cmbG_err (V : List Nat) (e : Nat) (s : List Bool) (h : e ≠ 0) : cmbG V ([], e, s) = ([], e, s) := by unfold cmbG; rw [if_pos h]
set_option maxRecDepth 100000 in
theorem vgo_err (F : Nat) : ∀ (k : Nat) (s : List Bool) (a : Nat), (vgo F k s a).2.1 ≠ 0 → (vgo F k s a).1 = []
  | 0, s, a, h => absurd rfl h
  | k + 1, s, a, h => by
    unfold vgo at h ⊢
    split
    · rfl
    · split
      · rfl
      · split
        · rfl
        · rename_i h1 h2 h3
          rw [if_neg h1, if_neg h2, if_neg h3] at h
          exact absurd rfl h
set_option maxRecDepth 100000 in
theorem cmbG_nil (F k : Nat) (s : List Bool) (a : Nat) : cmbG [] (vgo F k s a) = vgo F k s a := by
  unfold cmbG
  split
  · rename_i h
    rw [← vgo_err F k s a h]
  · rw [List.nil_append]
set_option maxRecDepth 100000 in
theorem cmbG_step (F k : Nat) (V : List Nat) (s : List Bool) (a : Nat) (h1 : gtE s 19 65536 = 0) (h2 : a + gtV s 19 65536 < F) : cmbG V (vgo F (k + 1) s a) = cmbG (V ++ [a + gtV s 19 65536]) (vgo F k (gtL s 19 65536) (a + gtV s 19 65536)) := by
  rw [vgo, if_neg (by omega), if_neg (by omega)]
  by_cases h : (vgo F k (gtL s 19 65536) (a + gtV s 19 65536)).2.1 ≠ 0
  · rw [if_pos h]
    unfold cmbG
    rw [if_pos h, if_pos h]
  · rw [if_neg h]
    unfold cmbG
    rw [if_neg h, if_neg (by simp)]
    simp at h
    simp [← h]
set_option maxRecDepth 100000 in
theorem cmbG_bad (F k : Nat) (V : List Nat) (s : List Bool) (a : Nat) (h1 : gtE s 19 65536 ≠ 0) : cmbG V (vgo F (k + 1) s a) = ([], gtE s 19 65536, s) := by
  rw [vgo, if_pos h1, cmbG_err _ _ _ h1]
set_option maxRecDepth 100000 in
theorem cmbG_far (F k : Nat) (V : List Nat) (s : List Bool) (a : Nat) (h1 : gtE s 19 65536 = 0) (h2 : F ≤ a + gtV s 19 65536) : cmbG V (vgo F (k + 1) s a) = ([], 5, s) := by
  rw [vgo, if_neg (by omega), if_pos h2, cmbG_err _ _ _ (by decide)]

set_option maxRecDepth 100000 in
set_option maxHeartbeats 4000000 in
theorem gvalues_err (b : List UInt8) (w : World) (hb : b.length ≤ 1000) (hE : cvE b 0 1000 ≠ 0) :
    Calls Try.prog 15 #[.string ⟨b.toArray⟩] w (Ret w (.tuple #[.slice none 0 0, .int .i64 (cvE b 0 1000 : Int)])) := by
  obtain ⟨s, hs⟩ : ∃ z : ByteArray, z = ⟨b.toArray⟩ := ⟨_, rfl⟩
  obtain ⟨s1, hs1⟩ : ∃ z : ByteArray, z = ⟨(cvL b 0 1000).toArray⟩ := ⟨_, rfl⟩
  obtain ⟨E, hEE⟩ : ∃ z, z = cvE b 0 1000 := ⟨_, rfl⟩
  obtain ⟨v, hv⟩ : ∃ z, z = cvV b 0 1000 := ⟨_, rfl⟩
  have CC : Hid (∀ W, Calls Try.prog 39 #[.agg #[.string s, .int .i64 0], .int .u64 1000] W (Ret W (.tuple #[.agg #[.string s1, .int .i64 (E : Int)], .int .u64 (v : Int)]))) := Lib.hid fun W => by
    rw [hs, hs1, hEE, hv]; exact dcount_calls b 0 1000 (by omega) W
  rw [← hEE] at hE ⊢
  rw [← hs]
  have hE' : ¬ (E : Int) = 0 := by omega
  clear hs hs1 hEE hv hE
  go_enter Try.func15, Try.ntmps15
  go_wp2_with (first
    | (go_at_call 39; refine (CC.out _).mono ?_; rintro e' w1 ⟨rfl, d1⟩)
    | ((with_reducible refine at_store 75 (.tmp 4) (.tmp 17) ?_); refine wpList_store_blk rfl 75 (.tmp 4) (.tmp 17) rfl (w1.heap.size) zerosI [.string s1, .int .i64 (E : Int)] 75 rfl rfl (Blk.new w1 _ _) rfl (inC_size [] 0) (by intro v hv; simp only [List.mem_cons, List.not_mem_nil, or_false] at hv; rcases hv with rfl | rfl <;> rfl) ?_; intro w8 hb8 ho8; have sc0 : w8.cell? ⟨w1.heap.size, 0, none⟩ = some (.string s1) := hb8.cell 0; have sc1 : w8.cell? ⟨w1.heap.size, 1, none⟩ = some (.int .i64 (E : Int)) := hb8.cell 1))
  have HB8 : Hid (Below w.heap.size w w8) := Lib.hid (below_only (below_al d1 _) ho8 d1.size)
  have HC : Hid (w8.cell? ⟨w1.heap.size, 1, none⟩ = some (.int .i64 (E : Int)) ∧ Below w.heap.size w w8) := Lib.hid ⟨sc1, HB8.out⟩
  clear sc0 sc1 hb8 ho8 d1
  go_region_held3 (fun W => W.cell? ⟨w1.heap.size, 1, none⟩ = some (.int .i64 (E : Int)) ∧ Below w.heap.size w W) (first | exact HC.out | assumption | exact ⟨HC.out.1, below_drewN HC.out.2 _⟩) (fail)
  all_goals go_wp2
  all_goals go_ret2
  all_goals exact ⟨rfl, by first | assumption | exact And.right (by assumption)⟩
set_option maxRecDepth 100000 in
set_option maxHeartbeats 4000000 in
theorem gvalues_zero (b : List UInt8) (w : World) (hb : b.length ≤ 1000) (hE : cvE b 0 1000 = 0) (hV : cvV b 0 1000 = 0) :
    Calls Try.prog 15 #[.string ⟨b.toArray⟩] w (Ret w (.tuple #[.slice none 0 0, .int .i64 ((if (cvL b 0 1000).length > 0 then 3 else 0 : Nat) : Int)])) := by
  obtain ⟨s, hs⟩ : ∃ z : ByteArray, z = ⟨b.toArray⟩ := ⟨_, rfl⟩
  obtain ⟨s1, hs1⟩ : ∃ z : ByteArray, z = ⟨(cvL b 0 1000).toArray⟩ := ⟨_, rfl⟩
  obtain ⟨E, hEE⟩ : ∃ z, z = cvE b 0 1000 := ⟨_, rfl⟩
  obtain ⟨v, hv⟩ : ∃ z, z = cvV b 0 1000 := ⟨_, rfl⟩
  have CC : Hid (∀ W, Calls Try.prog 39 #[.agg #[.string s, .int .i64 0], .int .u64 1000] W (Ret W (.tuple #[.agg #[.string s1, .int .i64 (E : Int)], .int .u64 (v : Int)]))) := Lib.hid fun W => by
    rw [hs, hs1, hEE, hv]; exact dcount_calls b 0 1000 (by omega) W
  obtain ⟨n, hn⟩ : ∃ z, z = (cvL b 0 1000).length := ⟨_, rfl⟩
  have hsz : s1.size = n := by rw [hs1, hn, bstr_size]
  rw [← hEE] at hE
  rw [← hv] at hV
  rw [← hs, ← hn]
  subst hE
  subst hV
  clear hs hs1 hEE hv hn
  have STEP : True := trivial
  by_cases h0 : 0 < n
  · have h0' : (0 : Int) < (n : Int) := by omega
    rw [if_pos h0]
    go_enter Try.func15, Try.ntmps15
    go_wp2_with (first
      | (go_at_call 39; refine (CC.out _).mono ?_; rintro e' w1 ⟨rfl, d1⟩)
      | ((with_reducible refine at_store 75 (.tmp 4) (.tmp 17) ?_); refine wpList_store_blk rfl 75 (.tmp 4) (.tmp 17) rfl (w1.heap.size) zerosI [.string s1, .int .i64 0] 75 rfl rfl (Blk.new w1 _ _) rfl (inC_size [] 0) (by intro v hv; simp only [List.mem_cons, List.not_mem_nil, or_false] at hv; rcases hv with rfl | rfl <;> rfl) ?_; intro w8 hb8 ho8; have sc0 : w8.cell? ⟨w1.heap.size, 0, none⟩ = some (.string s1) := hb8.cell 0; have sc1 : w8.cell? ⟨w1.heap.size, 1, none⟩ = some (.int .i64 0) := hb8.cell 1; have HB8 : Hid (Below w.heap.size w w8) := Lib.hid (below_only (below_al d1 _) ho8 d1.size)))
    go_ret2
    exact ⟨rfl, HB8.out⟩
  · have h0' : ¬ (0 : Int) < (n : Int) := by omega
    rw [if_neg h0]
    go_enter Try.func15, Try.ntmps15
    go_wp2_with (first
      | (go_at_call 39; refine (CC.out _).mono ?_; rintro e' w1 ⟨rfl, d1⟩)
      | ((with_reducible refine at_store 75 (.tmp 4) (.tmp 17) ?_); refine wpList_store_blk rfl 75 (.tmp 4) (.tmp 17) rfl (w1.heap.size) zerosI [.string s1, .int .i64 0] 75 rfl rfl (Blk.new w1 _ _) rfl (inC_size [] 0) (by intro v hv; simp only [List.mem_cons, List.not_mem_nil, or_false] at hv; rcases hv with rfl | rfl <;> rfl) ?_; intro w8 hb8 ho8; have sc0 : w8.cell? ⟨w1.heap.size, 0, none⟩ = some (.string s1) := hb8.cell 0; have sc1 : w8.cell? ⟨w1.heap.size, 1, none⟩ = some (.int .i64 0) := hb8.cell 1; have HB8 : Hid (Below w.heap.size w w8) := Lib.hid (below_only (below_al d1 _) ho8 d1.size)))
    go_ret2
    exact ⟨rfl, HB8.out⟩
end Go.Proofs.Ytplnmjdafchjbaa
