/- Merged texts: GcsA GcsB GcsC. -/
import Derived.Test.YtplnmjdafchjbaaMaw
import Derived.Test.YtplnmjdafchjbaaMas
import Derived.Test.YtplnmjdafchjbaaMaf
import Derived.Deep.CutRange
import Derived.Deep.DeepCutAuto
/- The document's own answers of layer 13: an item's number. -/
namespace Go.Proofs.Ytplnmjdafchjbaa
open Go.RowKit
set_option linter.unusedVariables false
set_option linter.unusedSimpArgs false

set_option maxRecDepth 100000 in
set_option maxHeartbeats 2000000 in
theorem gnumber_calls (k l n : Nat) (t : List UInt8) (w : World) (hk : k < 2 ^ 64) (hl : l < 2 ^ 64) (hn : n ≤ 1000000) (ht : t.length ≤ 100000) :
    Calls Try.prog 44 #[.agg #[.int .u64 (k : Int), .int .u64 (l : Int)], .string ⟨t.toArray⟩, .int .i64 (n : Int)] w (Ret w (.int .u64 (numb k l n t : Int))) := by
  obtain ⟨v, hv⟩ : ∃ v, v = numb k l n t := ⟨_, rfl⟩
  obtain ⟨h, hh⟩ : ∃ h, h = sipH k l t := ⟨_, rfl⟩
  obtain ⟨m, hm⟩ : ∃ m, m = n * 784931 := ⟨_, rfl⟩
  obtain ⟨s, hs⟩ : ∃ s : ByteArray, s = ⟨t.toArray⟩ := ⟨_, rfl⟩
  have u1 : IntKind.u64.wrap (n : Int) = (n : Int) := by rw [IntKind.wrap_u64]; omega
  have u2 : IntKind.u64.wrap ((n : Int) * 784931) = (m : Int) := by rw [IntKind.wrap_u64]; omega
  have hvh : v = hi64 h m := by rw [hv, hh, hm]; rfl
  have CH : Hid (∀ A c W, Rd W A t.length t → Calls Try.prog 72 #[.int .u64 (k : Int), .int .u64 (l : Int), .slice A t.length c] W (Ret W (.int .u64 (h : Int)))) := Lib.hid fun A c W hr => by rw [hh]; exact xhash_calls k l A t.length c t W hk hl ht hr
  have CR : Hid (∀ W, Calls Try.prog 71 #[.int .u64 (h : Int), .int .u64 (m : Int)] W (Quiet W (.int .u64 (v : Int)))) := Lib.hid fun W => by
    rw [hvh]
    exact rrange_calls h m W (by rw [hh]; exact sipH_lt k l t hk hl) (by omega)
  have CV : Hid (t.length ≤ 1000000) := Lib.hid (by omega)
  have HS : Hid (s = ⟨t.toArray⟩) := Lib.hid hs
  rw [← hv, ← hs]
  clear hv hh hm hvh ht hs
  go_enter Try.func44, Try.ntmps44
  go_wp2_with (first
    | (refine at_cvX 9 27 _ ?_; refine wpList_cvX rfl _ rfl t (congrArg Value.string HS.out) CV.out ?_; intro A c w1 hr1 hB1)
    | (go_at_call 72; refine (CH.out _ _ _ (by assumption)).mono ?_; rintro e' w2 ⟨rfl, hB2⟩)
    | (go_at_call 71; refine (CR.out _).mono ?_; rintro e' w3 ⟨rfl, d3, rfl⟩))
  go_ret
  exact ⟨rfl, below_drewN (below_more (below_more (below_al (Below.refl _ w) _) hB1) hB2) _⟩
end Go.Proofs.Ytplnmjdafchjbaa

/- The document's own answers of layer 13: items, each once. -/
namespace Go.Proofs.Ytplnmjdafchjbaa
open Go.RowKit
set_option linter.unusedVariables false
set_option linter.unusedSimpArgs false

/-- A text as a value. -/
def VT (l : List UInt8) : Value := .string ⟨l.toArray⟩
set_option maxRecDepth 100000 in
theorem vt_one (l : List UInt8) : (VT l).oneCell' = true := rfl
set_option maxRecDepth 100000 in
theorem infoT : (Try.prog.info? 9).map (fun i => (i.zero, i.size)) = some (some (VT []), 1) := by kernel_rfl
set_option maxRecDepth 100000 in
theorem infoTb : (Try.prog.info? 9).map (fun i => (i.zero, i.size, i.bytes)) = some (some (VT []), 1, 16) := by kernel_rfl
set_option maxRecDepth 100000 in
theorem vt_eq (a b : List UInt8) : ((⟨a.toArray⟩ : ByteArray).toList == (⟨b.toArray⟩ : ByteArray).toList) = decide (a = b) := by
  rw [ByteArray.toList_mk, ByteArray.toList_mk]
  by_cases h : a = b
  · simp [h]
  · simp [h]
/-- Whether a text is among the first j of a list. -/
def amg (s : List UInt8) (O : List (List UInt8)) (j : Nat) : Bool := (O.take j).any fun t => decide (s = t)
set_option maxRecDepth 100000 in
theorem amg_zero (s : List UInt8) (O : List (List UInt8)) : amg s O 0 = false := rfl
set_option maxRecDepth 100000 in
theorem amg_succ (s : List UInt8) (O : List (List UInt8)) (j : Nat) (hj : j < O.length) : amg s O (j + 1) = (amg s O j || decide (s = O[j])) := by
  unfold amg
  rw [List.take_add_one, List.getElem?_eq_getElem hj, List.any_append]
  simp
set_option maxRecDepth 100000 in
theorem amg_all (s : List UInt8) (O : List (List UInt8)) (j : Nat) (hj : O.length ≤ j) : amg s O j = decide (s ∈ O) := by
  unfold amg
  rw [List.take_of_length_le hj]
  induction O with
  | nil => simp
  | cons a r ih =>
    rw [List.any_cons, ih (by simp at hj; omega)]
    by_cases h1 : s = a
    · simp [h1]
    · simp [h1]

set_option maxRecDepth 100000 in
set_option maxHeartbeats 4000000 in
theorem gonce_calls (A : Option Addr) (n c : Nat) (L : List (List UInt8)) (w : World) (hr : RdR w A n (L.map VT)) (hn : n ≤ 100000) :
    Calls Try.prog 55 #[.slice A n c] w fun e w' => ∃ A' c', e = .returned (.slice A' (once L).length c') ∧ OwnR w' w.heap.size 9 A' (once L).length c' ((once L).map VT) ∧ Below w.heap.size w w' := by
  have hln : L.length = n := by have := hr.1; simpa using this
  have HR := Lib.hid hr
  have HLN := Lib.hid hln
  clear hr hln
  go_enter Try.func55, Try.ntmps55
  go_wp2
  go_loopw [11, 3] (fun kv ov wr => ∃ (t m : Nat) (A1 : Option Addr) (c1 : Nat), kv = .int .i64 (t : Int) ∧ ov = .slice A1 m c1 ∧ t ≤ n ∧ m ≤ t ∧ OwnR wr w.heap.size 9 A1 m c1 ((once (L.take t)).map VT) ∧ Below w.heap.size w wr) (fun kv _ _ => n - (intOf kv).toNat)
  case atStart => exact ⟨0, 0, none, 0, by first | rfl | go_num, rfl, by omega, by omega, by rw [List.take_zero]; exact OwnR.nil _ _ _, Below.refl _ _⟩
  case round =>
    obtain ⟨t, m, A1, c1, rfl, rfl, htn, hmt, hown, hbel⟩ := hrel
    obtain ⟨wo, hwo⟩ : ∃ x, x = wr := ⟨_, rfl⟩
    rw [← hwo] at hown hbel ⊢
    clear hwo
    by_cases hlt : t < n
    · have hlt' : (t : Int) < (n : Int) := by omega
      obtain ⟨b, off, hl, rfl, hb, sc⟩ := HR.out.at_ hlt
      have sc' := (hbel.cell (p := ⟨b, off + t, none⟩) hb).trans sc
      rw [List.getElem_map] at sc'
      obtain ⟨s, hs⟩ : ∃ z, z = L[t]'(by simpa using hl) := ⟨_, rfl⟩
      rw [← hs] at sc'
      have sc2 : wo.cell? ⟨b, off + t, none⟩ = some (.string ⟨s.toArray⟩) := sc'
      obtain ⟨O, hO⟩ : ∃ z, z = once (L.take t) := ⟨_, rfl⟩
      rw [← hO] at hown
      have hom : O.length = m := by have := hown.1; simpa using this
      have HNX : Hid (once (L.take (t + 1)) = onceS O s) := Lib.hid (by
        rw [List.take_add_one, List.getElem?_eq_getElem (by simpa using hl), hO, hs]
        exact once_snoc _ _)
      obtain ⟨S, hS⟩ : ∃ z : ByteArray, z = ⟨s.toArray⟩ := ⟨_, rfl⟩
      rw [← hS] at sc2
      have HS := Lib.hid hS
      clear sc sc' hs hO hS
      go_wp2
      go_loopw [17, 6] (fun jv fv wr => ∃ (j : Nat), jv = .int .i64 (j : Int) ∧ fv = .bool (amg s O j) ∧ j ≤ m ∧ wr = wo) (fun jv _ _ => m - (intOf jv).toNat)
      case atStart => exact ⟨0, by first | rfl | go_num, rfl, by omega, rfl⟩
      case round =>
        obtain ⟨j, rfl, rfl, hjm, rfl⟩ := hrel
        by_cases hjt : j < m
        · have hjt' : (j : Int) < (m : Int) := by omega
          obtain ⟨b2, off2, hl2, rfl, hb2, sc3⟩ := hown.rd.at_ hjt
          rw [List.getElem_map] at sc3
          have HA := Lib.hid (amg_succ s O j (by omega))
          obtain ⟨f, hf⟩ : ∃ z, z = amg s O j := ⟨_, rfl⟩
          rw [← hf] at HA ⊢
          obtain ⟨u, hu⟩ : ∃ z, z = O[j]'(by omega) := ⟨_, rfl⟩
          rw [← hu] at sc3 HA
          obtain ⟨U, hU⟩ : ∃ z : ByteArray, z = ⟨u.toArray⟩ := ⟨_, rfl⟩
          have sc4 : wr.cell? ⟨b2, off2 + j, none⟩ = some (.string U) := by rw [hU]; exact sc3
          have HSU : Hid ((S.toList == U.toList) = decide (s = u)) := Lib.hid (by rw [HS.out, hU]; exact vt_eq s u)
          clear sc3 hf hu hU
          cases f with
          | true =>
            go_wp2
            go_roundw
            case rel => exact ⟨j + 1, by go_num, by rw [HA.out, Bool.true_or], by omega, trivial⟩
            case measure => simp [intOf]; omega
          | false =>
            go_wp2
            go_roundw
            case rel => exact ⟨j + 1, by go_num, by rw [HA.out, Bool.false_or, ← HSU.out], by omega, trivial⟩
            case measure => simp [intOf]; omega
        · have hjt' : ¬ (j : Int) < (m : Int) := by omega
          have HAA := Lib.hid (amg_all s O j (by omega))
          by_cases hin : s ∈ O
          · have e : amg s O j = true := by rw [HAA.out]; exact decide_eq_true hin
            rw [e]
            have HN2 : Hid (once (L.take (t + 1)) = O) := Lib.hid (by rw [HNX.out]; unfold onceS; rw [if_pos hin])
            clear e
            go_wp2
            go_roundw
            case rel => exact ⟨t + 1, m, A1, c1, by go_num, rfl, by omega, by omega, by rw [HN2.out]; exact hown, hbel⟩
            case measure => simp [intOf]; omega
          · have e : amg s O j = false := by rw [HAA.out]; exact decide_eq_false hin
            rw [e]
            have HN2 : Hid ((once (L.take (t + 1))).map VT = O.map VT ++ [VT s]) := Lib.hid (by rw [HNX.out]; unfold onceS; rw [if_neg hin, List.map_append]; rfl)
            have HVS : Hid (Value.string S = VT s) := Lib.hid (by rw [HS.out]; rfl)
            clear e
            go_wp2_with (first
              | ((with_reducible refine at_bsX 32 1 #[(0, .tmp 31)] ?_); refine wpList_bsR rfl 32 9 (VT []) (VT s) Try.underlying32 infoT rfl rfl (.tmp 31) rfl HVS.out ?_; intro g w1 hb1 hg1 hl1 hB1)
              | ((with_reducible refine at_appX 32 (.tmp 30) (.tmp 32) ?_); refine wpList_appR rfl 32 9 (VT []) 16 Try.underlying32 infoTb rfl (by decide) (.tmp 30) (.tmp 32) rfl w.heap.size w (below_more hbel hB1) (Nat.le_refl _) A1 m c1 (O.map VT) rfl (hown.up hB1) _ 1 1 [VT s] rfl hb1.rdR (fun u hu => by rw [List.mem_singleton.1 hu]; rfl) (by omega) ?_; intro A3 c3 w2 ho2 hf2 hB2))
            go_roundw
            case rel => exact ⟨t + 1, m + 1, A3, c3, by go_num, rfl, by omega, by omega, by rw [HN2.out]; exact ho2, hB2⟩
            case measure => simp [intOf]; omega
    · have hlt' : ¬ (t : Int) < (n : Int) := by omega
      have e : t = n := by omega
      subst e
      rw [List.take_of_length_le (by rw [HLN.out]; omega)] at hown
      have hom : (once L).length = m := by have := hown.1; simpa using this
      go_wp2
      go_ret
      subst hom
      exact ⟨A1, c1, rfl, hown, hbel⟩
end Go.Proofs.Ytplnmjdafchjbaa

/- The document's own answers of layer 13: a list's numbers, in order. -/
namespace Go.Proofs.Ytplnmjdafchjbaa
open Go.RowKit
set_option linter.unusedVariables false
set_option linter.unusedSimpArgs false

/-- A number as a value. -/
def VN (x : Nat) : Value := .int .u64 (x : Int)
set_option maxRecDepth 100000 in
theorem vn_one (U : List Nat) : ∀ u ∈ U.map VN, u.oneCell' = true := fun u hu => by
  obtain ⟨x, _, rfl⟩ := List.mem_map.1 hu
  rfl
set_option maxRecDepth 100000 in
theorem infoU : (Try.prog.info? 22).map (fun i => (i.zero, i.size)) = some (some (VN 0), 1) := by kernel_rfl
set_option maxRecDepth 100000 in
theorem infoUb : (Try.prog.info? 22).map (fun i => (i.zero, i.size, i.bytes)) = some (some (VN 0), 1, 8) := by kernel_rfl
set_option maxRecDepth 100000 in
theorem sizeU : (Try.prog.info? 22).map (·.size) = some 1 := by kernel_rfl
set_option maxRecDepth 100000 in
theorem ins_at (x : Nat) : ∀ (O : List Nat) (j : Nat), j ≤ O.length → (∀ y ∈ O.take j, y ≤ x) → (∀ h : j < O.length, x < O[j]) → ins x O = O.take j ++ x :: O.drop j
  | [], j, h, _, _ => by
    have : j = 0 := by simpa using h
    subst this
    rfl
  | y :: r, 0, _, _, h2 => by
    have h := h2 (by simp)
    simp at h
    unfold ins
    rw [if_neg (by omega)]
    rfl
  | y :: r, j + 1, h, h1, h2 => by
    have hy := h1 y (by simp)
    unfold ins
    rw [if_pos hy, ins_at x r j (by simpa using h) (fun z hz => h1 z (by simp [hz])) (fun hh => by have := h2 (by simpa using hh); simpa using this)]
    simp
/-- The numbers of the first t items, in order. -/
def sofar (k l n : Nat) (O : List (List UInt8)) (t : Nat) : List Nat := sortN ((O.take t).map (numb k l n))
set_option maxRecDepth 100000 in
theorem sofar_zero (k l n : Nat) (O : List (List UInt8)) : sofar k l n O 0 = [] := rfl
set_option maxRecDepth 100000 in
theorem sofar_succ (k l n : Nat) (O : List (List UInt8)) (t : Nat) (h : t < O.length) : sofar k l n O (t + 1) = ins (numb k l n O[t]) (sofar k l n O t) := by
  unfold sofar sortN
  rw [List.take_add_one, List.getElem?_eq_getElem h, List.map_append, List.foldl_append]
  rfl
set_option maxRecDepth 100000 in
theorem sofar_len (k l n : Nat) (O : List (List UInt8)) (t : Nat) (h : t ≤ O.length) : (sofar k l n O t).length = t := by
  unfold sofar
  rw [(sort_perm _).length_eq, List.length_map, List.length_take]
  omega
set_option maxRecDepth 100000 in
theorem numb_64 (k l n : Nat) (t : List UInt8) (hk : k < 2 ^ 64) (hl : l < 2 ^ 64) (hn : n ≤ 100000) : numb k l n t < 18446744073709551616 := by
  rcases Nat.eq_zero_or_pos n with h | h
  · subst h; rw [numb_zero]; omega
  · have := numb_lt k l n t hk hl h; omega
set_option maxRecDepth 100000 in
theorem sofar_64 (k l n : Nat) (O : List (List UInt8)) (t : Nat) (hk : k < 2 ^ 64) (hl : l < 2 ^ 64) (hn : n ≤ 100000) : ∀ x ∈ sofar k l n O t, x < 18446744073709551616 := fun x hx => by
  have h := (sort_perm _).mem_iff.1 hx
  obtain ⟨y, _, rfl⟩ := List.mem_map.1 h
  exact numb_64 k l n y hk hl hn

set_option maxRecDepth 100000 in
set_option maxHeartbeats 4000000 in
theorem gnumbers_calls (k l : Nat) (A : Option Addr) (n c : Nat) (L : List (List UInt8)) (w : World) (hk : k < 2 ^ 64) (hl : l < 2 ^ 64) (hr : RdR w A n (L.map VT)) (hn : n ≤ 100000) (hL : ∀ t ∈ L, t.length ≤ 100000) :
    Calls Try.prog 28 #[.agg #[.int .u64 (k : Int), .int .u64 (l : Int)], .slice A n c] w fun e w' => ∃ A' c', e = .returned (.slice A' (once L).length c') ∧ OwnR w' w.heap.size 22 A' (once L).length c' ((gnums k l L).map VN) ∧ Below w.heap.size w w' := by
  have hln : L.length = n := by have := hr.1; simpa using this
  obtain ⟨O, hO⟩ : ∃ z, z = once L := ⟨_, rfl⟩
  obtain ⟨m, hm⟩ : ∃ z, z = O.length := ⟨_, rfl⟩
  have hmn : m ≤ n := by rw [hm, hO, ← hln]; exact once_len L
  have CO : Hid (∀ W, Below w.heap.size w W → Calls Try.prog 55 #[.slice A n c] W fun e w' => ∃ A' c', e = .returned (.slice A' m c') ∧ RdR w' A' m (O.map VT) ∧ Below W.heap.size W w') := Lib.hid fun W hW => by
    refine (gonce_calls A n c L W (hr.below hW) hn).mono ?_
    rintro e w' ⟨A', c', rfl, h1, h2⟩
    rw [← hO, ← hm] at h1 ⊢
    exact ⟨A', c', rfl, h1.rd, h2⟩
  have CN : Hid (∀ (W : World) (t : List UInt8), t ∈ O → Calls Try.prog 44 #[.agg #[.int .u64 (k : Int), .int .u64 (l : Int)], .string ⟨t.toArray⟩, .int .i64 (m : Int)] W (Ret W (.int .u64 (numb k l m t : Int)))) := Lib.hid fun W t ht =>
    gnumber_calls k l m t W hk hl (by omega) (hL t (by rw [hO] at ht; exact (once_mem L t).1 ht))
  have HG : Hid (gnums k l L = sofar k l m O m) := Lib.hid (by
    unfold gnums sofar
    rw [List.take_of_length_le (by omega), ← hO, ← hm])
  have H64 : Hid (∀ t, ∀ x ∈ sofar k l m O t, x < 18446744073709551616) := Lib.hid fun t => sofar_64 k l m O t hk hl (by omega)
  have HOM : Hid (O.length = m) := Lib.hid hm.symm
  have HSL : Hid (∀ t, t ≤ m → (sofar k l m O t).length = t) := Lib.hid fun t ht => sofar_len k l m O t (by omega)
  have HSS : Hid (∀ t (h : t < O.length), sofar k l m O (t + 1) = ins (numb k l m O[t]) (sofar k l m O t)) := Lib.hid fun t h => sofar_succ k l m O t h
  have hk0 : Blk (w.alloc (.cells #[.int .u64 (k : Int), .int .u64 (l : Int)] 23)) w.heap.size [.int .u64 (k : Int), .int .u64 (l : Int)] 23 := Blk.new w _ _
  rw [← hO, ← hm]
  clear hr hO hm hln hL
  go_enter Try.func28, Try.ntmps28
  go_wp2_with (go_at_call 55; refine (CO.out _ (below_al (Below.refl _ w) _)).mono ?_; rintro e' x1 ⟨A1, c1, rfl, ho1, d1⟩)
  have HO1 := Lib.hid ho1
  have HBX : Hid (Below w.heap.size w x1) := Lib.hid (below_more (below_al (Below.refl _ _) _) d1)
  have HK1 : Hid (Blk x1 w.heap.size [.int .u64 (k : Int), .int .u64 (l : Int)] 23) := Lib.hid (hk0.up d1)
  have hx1s : w.heap.size + 1 ≤ x1.heap.size := by have h := d1.size; simp at h; omega
  clear CO ho1 d1 hk0
  go_loopw [16, 6] (fun kv ov wr => ∃ (t : Nat) (A2 : Option Addr) (c2 : Nat), kv = .int .i64 (t : Int) ∧ ov = .slice A2 t c2 ∧ t ≤ m ∧ OwnR wr x1.heap.size 22 A2 t c2 ((sofar k l m O t).map VN) ∧ Below x1.heap.size x1 wr) (fun kv _ _ => m - (intOf kv).toNat)
  case atStart => exact ⟨0, none, 0, by first | rfl | go_num, rfl, by omega, by rw [sofar_zero]; exact OwnR.nil _ _ _, Below.refl _ _⟩
  case round =>
    obtain ⟨t, A2, c2, rfl, rfl, htm, hown, hbel⟩ := hrel
    obtain ⟨wo, hwo⟩ : ∃ x, x = wr := ⟨_, rfl⟩
    rw [← hwo] at hown hbel ⊢
    clear hwo
    by_cases hlt : t < m
    · have hlt' : (t : Int) < (m : Int) := by omega
      have htO : t < O.length := by rw [HOM.out]; exact hlt
      obtain ⟨b, off, hl, rfl, hb, sc⟩ := HO1.out.at_ hlt
      have sc' := (hbel.cell (p := ⟨b, off + t, none⟩) hb).trans sc
      rw [List.getElem_map] at sc'
      have CNt : Hid (∀ (W : World), Calls Try.prog 44 #[.agg #[.int .u64 (k : Int), .int .u64 (l : Int)], .string ⟨O[t].toArray⟩, .int .i64 (m : Int)] W (Ret W (.int .u64 (numb k l m O[t] : Int)))) := Lib.hid fun W => CN.out W _ (List.getElem_mem _)
      have HSt := Lib.hid (HSS.out t htO)
      obtain ⟨x, hx⟩ : ∃ z, z = numb k l m O[t] := ⟨_, rfl⟩
      rw [← hx] at CNt HSt
      obtain ⟨S, hS⟩ : ∃ z : ByteArray, z = ⟨O[t].toArray⟩ := ⟨_, rfl⟩
      have sc2 : wo.cell? ⟨b, off + t, none⟩ = some (.string S) := by rw [hS]; exact sc'
      rw [← hS] at CNt
      obtain ⟨U, hU⟩ : ∃ z, z = sofar k l m O t := ⟨_, rfl⟩
      have hUl : U.length = t := by rw [hU]; exact HSL.out t htm
      rw [← hU] at hown HSt
      have hk1 : Blk wo w.heap.size [.int .u64 (k : Int), .int .u64 (l : Int)] 23 := (hbel.block w.heap.size (by omega)).trans HK1.out
      clear sc sc' hS hx hU hl
      go_upto_region 8 with (first
        | ((with_reducible refine at_load 23 (.tmp 2) ?_); refine wpList_load_mid rfl 23 (.tmp 2) rfl (w.heap.size) (0) (by first | rfl | simp [Act.eval]) [.int .u64 (k : Int), .int .u64 (l : Int)] _ (Blk.range hk1) Try.underlying23 rfl (by kernel_rfl) ?_)
        | (go_at_call 44; refine (CNt.out _).mono ?_; rintro e' w3 ⟨rfl, d3⟩))
      have hown3 : OwnR w3 x1.heap.size 22 A2 t c2 (U.map VN) := hown.up d3
      have hbel3 := below_more hbel d3
      clear hown hbel hk1 sc2 CNt d3
      have H1 : Hid (∀ y ∈ U.take 0, y ≤ x) := Lib.hid (by simp)
      -- what follows once the place is found
      go_loopw [10] (fun jv wr => ∃ (j : Nat), jv = .int .i64 (j : Int) ∧ j ≤ t ∧ (∀ y ∈ U.take j, y ≤ x) ∧ wr = w3) (fun jv _ => t - (intOf jv).toNat)
      case atStart => exact ⟨0, by first | rfl | go_num, by omega, H1.out, rfl⟩
      case round =>
        obtain ⟨j, rfl, hjt, hle, rfl⟩ := hrel
        have HLE := Lib.hid hle
        clear hle H1
        by_cases hjm : j < t ∧ ∀ h : j < U.length, U[j] ≤ x
        · obtain ⟨hj2, hux⟩ := hjm
          have hj2' : (j : Int) < (t : Int) := by omega
          obtain ⟨b2, off2, hl2, rfl, hb2, sc3⟩ := hown3.rd.at_ hj2
          rw [List.getElem_map] at sc3
          have hju : j < U.length := by omega
          have hux2 := hux hju
          have HN : Hid (∀ y ∈ U.take (j + 1), y ≤ x) := Lib.hid (fun y hy => by
            rw [List.take_add_one, List.getElem?_eq_getElem hju] at hy
            rcases List.mem_append.1 hy with h | h
            · exact HLE.out y h
            · have e : y = U[j] := by simpa using h
              rw [e]; exact hux2)
          obtain ⟨u, hu⟩ : ∃ z, z = U[j] := ⟨_, rfl⟩
          rw [← hu] at sc3 hux2
          have sc4 : wr.cell? ⟨b2, off2 + j, none⟩ = some (.int .u64 (u : Int)) := sc3
          have hux3 : (u : Int) ≤ (x : Int) := by omega
          clear sc3 hux hux2 hu HLE
          go_wp2
          go_roundw
          case rel => exact ⟨j + 1, by go_num, by omega, HN.out, trivial⟩
          case measure => simp [intOf]; omega
        · have HIN : Hid ((sofar k l m O (t + 1)).map VN = (U.map VN).take j ++ [VN x] ++ (U.map VN).drop j) := Lib.hid (by
            rw [HSt.out, ins_at x U j (by omega) HLE.out (fun h => by
              rcases Nat.lt_or_ge x U[j] with h3 | h3
              · exact h3
              · exact absurd ⟨by omega, fun _ => h3⟩ hjm)]
            simp)
          have hcap := hown3.cap
          have hSH : ∀ W, (Instr.sliceAt 35 (.slice A2 t c2) none (some (.int .i64 (j : Int))) none).run Try.prog W = .ok (.slice (sub A2 c2 0) j c2) W := fun W => run_subH 35 22 Try.underlying35 sizeU A2 t c2 j _ rfl (by omega) W
          have hSL : ∀ W, (Instr.sliceAt 35 (.slice A2 t c2) (some (.int .i64 (j : Int))) none none).run Try.prog W = .ok (.slice (sub A2 c2 j) (t - j) (c2 - j)) W := fun W => run_subL 35 22 Try.underlying35 sizeU A2 t c2 j _ rfl hjt W
          have HR1 : Hid (RdR wr (sub A2 c2 0) j ((U.map VN).take j)) := Lib.hid (hown3.rd.head j hcap.1 hjt)
          have HR2 : Hid (∀ W, Below wr.heap.size wr W → RdR W (sub A2 c2 j) (t - j) ((U.map VN).drop j)) := Lib.hid fun W hW => (hown3.rd.drop j hcap.1).below hW
          have HSZ : Hid (x1.heap.size ≤ wr.heap.size) := Lib.hid hbel3.size
          have HBB : Hid (∀ W, Below wr.heap.size wr W → Below x1.heap.size x1 W) := Lib.hid fun W hW => hbel3.trans (hW.mono hbel3.size)
          by_cases hj2 : j < t
          · have hj2' : (j : Int) < (t : Int) := by omega
            have hju : j < U.length := by omega
            obtain ⟨b2, off2, hl2, e2, hb2, sc3⟩ := hown3.rd.at_ hj2
            rw [List.getElem_map] at sc3
            have hux : ¬ U[j] ≤ x := fun h => hjm ⟨hj2, fun _ => h⟩
            obtain ⟨u, hu⟩ : ∃ z, z = U[j] := ⟨_, rfl⟩
            rw [← hu] at sc3 hux
            have sc4 : wr.cell? ⟨b2, off2 + j, none⟩ = some (.int .u64 (u : Int)) := sc3
            have hux3 : ¬ (u : Int) ≤ (x : Int) := by omega
            subst e2
            clear sc3 hux hu HLE hown3 hbel3 hjm
            go_wp2_with (first
              | ((with_reducible refine at_appX 35 (.tmp 39) (.tmp 42) ?_); refine wpList_appR rfl 35 22 (VN 0) 8 Try.underlying35 infoUb rfl (by decide) (.tmp 39) (.tmp 42) rfl wr.heap.size wr (Below.refl _ _) (Nat.le_refl _) none 0 0 [] (by first | rfl | simp [Act.eval]) (OwnR.nil _ _ _) (sub (some ⟨b2, off2, none⟩) c2 0) j c2 ((U.map VN).take j) (by first | rfl | simp [Act.eval]) HR1.out (fun u hu => vn_one _ u (List.mem_of_mem_take hu)) (by omega) ?_; intro A4 c4 w4 ho4 hf4 hB4; rw [Nat.zero_add, List.nil_append] at ho4)
              | ((with_reducible refine at_bsX 35 1 #[(0, .tmp 45)] ?_); refine wpList_bsR rfl 35 22 (VN 0) (VN x) Try.underlying35 infoU rfl rfl (.tmp 45) rfl (by first | rfl | simp [Act.eval]) ?_; intro g w5 hb5 hg5 hl5 d5; have hB5 := below_more hB4 d5)
              | ((with_reducible refine at_appX 35 (.tmp 44) (.tmp 46) ?_); refine wpList_appR rfl 35 22 (VN 0) 8 Try.underlying35 infoUb rfl (by decide) (.tmp 44) (.tmp 46) rfl wr.heap.size wr hB5 (Nat.le_refl _) A4 j c4 ((U.map VN).take j) (by first | rfl | simp [Act.eval]) (ho4.up d5) _ 1 1 [VN x] (by first | rfl | simp [Act.eval]) hb5.rdR (fun u hu => by rw [List.mem_singleton.1 hu]; rfl) (by omega) ?_; intro A6 c6 w6 ho6 hf6 hB6)
              | ((with_reducible refine at_appX 35 (.tmp 48) (.tmp 51) ?_); refine wpList_appR rfl 35 22 (VN 0) 8 Try.underlying35 infoUb rfl (by decide) (.tmp 48) (.tmp 51) rfl wr.heap.size wr hB6 (Nat.le_refl _) A6 (j + 1) c6 ((U.map VN).take j ++ [VN x]) (by first | rfl | simp [Act.eval]) ho6 (sub (some ⟨b2, off2, none⟩) c2 j) (t - j) (c2 - j) ((U.map VN).drop j) (by first | rfl | simp [Act.eval]) (HR2.out _ hB6) (fun u hu => vn_one _ u (List.mem_of_mem_drop hu)) (by omega) ?_; intro A7 c7 w7 ho7 hf7 hB7))
            go_roundw
            have e7 : j + 1 + (t - j) = t + 1 := by omega
            rw [e7] at ho7 ⊢
            case rel => exact ⟨t + 1, A7, c7, by go_num, rfl, by omega, by rw [HIN.out]; exact ho7.low HSZ.out, HBB.out _ hB7⟩
            case measure => simp [intOf]; omega
          · have hj2' : ¬ (j : Int) < (t : Int) := by omega
            clear HLE hown3 hbel3 hjm
            go_wp2_with (first
              | ((with_reducible refine at_appX 35 (.tmp 39) (.tmp 42) ?_); refine wpList_appR rfl 35 22 (VN 0) 8 Try.underlying35 infoUb rfl (by decide) (.tmp 39) (.tmp 42) rfl wr.heap.size wr (Below.refl _ _) (Nat.le_refl _) none 0 0 [] (by first | rfl | simp [Act.eval]) (OwnR.nil _ _ _) (sub A2 c2 0) j c2 ((U.map VN).take j) (by first | rfl | simp [Act.eval]) HR1.out (fun u hu => vn_one _ u (List.mem_of_mem_take hu)) (by omega) ?_; intro A4 c4 w4 ho4 hf4 hB4; rw [Nat.zero_add, List.nil_append] at ho4)
              | ((with_reducible refine at_bsX 35 1 #[(0, .tmp 45)] ?_); refine wpList_bsR rfl 35 22 (VN 0) (VN x) Try.underlying35 infoU rfl rfl (.tmp 45) rfl (by first | rfl | simp [Act.eval]) ?_; intro g w5 hb5 hg5 hl5 d5; have hB5 := below_more hB4 d5)
              | ((with_reducible refine at_appX 35 (.tmp 44) (.tmp 46) ?_); refine wpList_appR rfl 35 22 (VN 0) 8 Try.underlying35 infoUb rfl (by decide) (.tmp 44) (.tmp 46) rfl wr.heap.size wr hB5 (Nat.le_refl _) A4 j c4 ((U.map VN).take j) (by first | rfl | simp [Act.eval]) (ho4.up d5) _ 1 1 [VN x] (by first | rfl | simp [Act.eval]) hb5.rdR (fun u hu => by rw [List.mem_singleton.1 hu]; rfl) (by omega) ?_; intro A6 c6 w6 ho6 hf6 hB6)
              | ((with_reducible refine at_appX 35 (.tmp 48) (.tmp 51) ?_); refine wpList_appR rfl 35 22 (VN 0) 8 Try.underlying35 infoUb rfl (by decide) (.tmp 48) (.tmp 51) rfl wr.heap.size wr hB6 (Nat.le_refl _) A6 (j + 1) c6 ((U.map VN).take j ++ [VN x]) (by first | rfl | simp [Act.eval]) ho6 (sub A2 c2 j) (t - j) (c2 - j) ((U.map VN).drop j) (by first | rfl | simp [Act.eval]) (HR2.out _ hB6) (fun u hu => vn_one _ u (List.mem_of_mem_drop hu)) (by omega) ?_; intro A7 c7 w7 ho7 hf7 hB7))
            go_roundw
            have e7 : j + 1 + (t - j) = t + 1 := by omega
            rw [e7] at ho7 ⊢
            case rel => exact ⟨t + 1, A7, c7, by go_num, rfl, by omega, by rw [HIN.out]; exact ho7.low HSZ.out, HBB.out _ hB7⟩
            case measure => simp [intOf]; omega
    · have hlt' : ¬ (t : Int) < (m : Int) := by omega
      have e : t = m := by omega
      subst e
      rw [← HG.out] at hown
      have hb := HBX.out.size
      have HW : Hid (OwnR wo w.heap.size 22 A2 t c2 ((gnums k l L).map VN)) := Lib.hid (hown.low hb)
      have HBW : Hid (Below w.heap.size w wo) := Lib.hid (HBX.out.trans (hbel.mono hb))
      clear hown hbel
      go_wp2
      go_ret
      exact ⟨A2, c2, rfl, HW.out, HBW.out⟩
end Go.Proofs.Ytplnmjdafchjbaa
