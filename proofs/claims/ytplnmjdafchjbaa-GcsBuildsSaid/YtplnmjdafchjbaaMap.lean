/- Merged texts: BitG BitH. -/
import Derived.Test.YtplnmjdafchjbaaMan
import Derived.Deep.RegionHeld3
import Derived.Deep.CutRange
import Derived.Deep.DeepCutAuto
/- Package bit: Of, ahead, Take, Run, Clean. -/
namespace Go.Proofs.Ytplnmjdafchjbaa
open Go.RowKit
set_option linter.unusedVariables false
set_option linter.unusedSimpArgs false

set_option maxRecDepth 100000 in
theorem or1_nat (x z : Nat) (hx : x < 9223372036854775808) (hz : z < 2) : bits .or .u64 ((2 * x : Nat) : Int) (z : Int) = ((2 * x + z : Nat) : Int) := by
  show IntKind.u64.wrap ((BitVec.ofInt 64 ((2 * x : Nat) : Int) ||| BitVec.ofInt 64 (z : Int)).toNat : Int) = _
  have e1 : (BitVec.ofInt 64 ((2 * x : Nat) : Int)).toNat = 2 * x := by rw [BitVec.toNat_ofInt]; omega
  have e2 : (BitVec.ofInt 64 (z : Int)).toNat = z := by rw [BitVec.toNat_ofInt]; omega
  have e3 := Nat.two_pow_add_eq_or_of_lt (i := 1) (b := z) (by omega) x
  rw [BitVec.toNat_or, e1, e2, IntKind.wrap_u64, show 2 * x = 2 ^ 1 * x from by omega, ← e3]
  omega
set_option maxRecDepth 100000 in
set_option maxHeartbeats 2000000 in
theorem bahead_calls (w : World) (q : Nat) (A : Option Addr) (c : Nat) (b : List UInt8) (k : Nat) (hR : Rb w q A c b k) (m : Nat) (hm : k + m ≤ 8 * b.length) (hm64 : m ≤ 64) :
    Calls Try.prog 64 #[.pointer (some ⟨q, 0, none⟩), .int .i64 (m : Int)] w (Ret w (.int .u64 (num (((unp b).drop k).take m) : Int))) := by
  obtain ⟨l, hl⟩ : ∃ z, z = (unp b).drop k := ⟨_, rfl⟩
  have hll : m ≤ l.length := by rw [hl, List.length_drop, unp_len]; omega
  have hbig := hR.big
  have hk53 : k ≤ 1125899906842624 := by have := hR.read; omega
  have HA : Hid (∀ W, Below w.heap.size w W → ∀ i v, l[i]? = some v → Calls Try.prog 97 #[.pointer (some ⟨q, 0, none⟩), .int .i64 ((k + i : Nat) : Int)] W (fun e w' => e = .returned (.int .u8 (v.toNat : Int)) ∧ W = w')) :=
    Lib.hid fun W hB i v hv => bat_calls W q A c b k (hR.below hB) (k + i) v (by rw [hl, List.getElem?_drop] at hv; exact hv)
  have HR : Hid (∀ W, Below w.heap.size w W → W.cell? ⟨q, 1, none⟩ = some (.int .i64 (k : Int))) := Lib.hid fun W hB => (hR.below hB).blk.cell 1
  rw [← hl]
  clear hR hl hm hbig
  go_enter Try.func64, Try.ntmps64
  go_wp2
  go_loopw [5, 8] (fun nv cv wr => ∃ (i x : Nat), i ≤ m ∧ cv = .int .i64 (i : Int) ∧ nv = .int .u64 (x : Int) ∧ x = num (l.take i) ∧ Below w.heap.size w wr) (fun _ cv _ => m - (intOf cv).toNat)
  case atStart => exact ⟨0, 0, Nat.zero_le _, rfl, rfl, rfl, Below.refl _ _⟩
  case round =>
    obtain ⟨i, x, hi, rfl, rfl, hx, hB⟩ := hrel
    by_cases hlt : i < m
    · have hlt' : (i : Int) < (m : Int) := by omega
      obtain ⟨v, hv⟩ : ∃ v, l[i]? = some v := ⟨_, List.getElem?_eq_getElem (by omega)⟩
      have hc1 := HR.out wr hB
      obtain ⟨J, hJ⟩ : ∃ z, z = k + i := ⟨_, rfl⟩
      obtain ⟨z, hz⟩ : ∃ z, z = v.toNat := ⟨_, rfl⟩
      have hz2 : z < 2 := hz ▸ bit_lt v
      have CA : Hid (Calls Try.prog 97 #[.pointer (some ⟨q, 0, none⟩), .int .i64 (J : Int)] wr (fun e w' => e = .returned (.int .u8 (z : Int)) ∧ wr = w')) := Lib.hid (by rw [hJ, hz]; exact HA.out wr hB i v hv)
      have a1 : (k : Int) + (i : Int) = (J : Int) := by omega
      have hxl : x < 9223372036854775808 := by
        have h1 := num_lt (l.take i)
        rw [List.length_take, Nat.min_eq_left (by omega)] at h1
        have h2 : 2 ^ i ≤ 2 ^ 63 := Nat.pow_le_pow_right (by omega) (by omega)
        omega
      obtain ⟨y, hy⟩ : ∃ y, y = 2 * x := ⟨_, rfl⟩
      obtain ⟨u, hu⟩ : ∃ u, u = 2 * x + z := ⟨_, rfl⟩
      have a2 : (x : Int) * 2 = (y : Int) := by omega
      have a3 : IntKind.u64.wrap (y : Int) = (y : Int) := by rw [IntKind.wrap_u64]; omega
      have a4 : bits .or .u64 (y : Int) (z : Int) = (u : Int) := by rw [hy, hu]; exact or1_nat x z hxl hz2
      have hJb : J ≤ 2000000000000000 := by omega
      have HX : Hid (u = num (l.take (i + 1))) := Lib.hid (by rw [num_take l i v hv, ← hx, ← hz, hu])
      have HB := Lib.hid hB
      clear hB hx hv hJ hz hy hu
      go_wp2_with (go_at_call 97; refine CA.out.mono ?_; rintro e' w' ⟨rfl, rfl⟩)
      go_roundw
      case rel => exact ⟨i + 1, u, by omega, by go_num, rfl, HX.out, HB.out⟩
      case measure => simp [intOf]; omega
    · have hlt' : ¬ (i : Int) < (m : Int) := by omega
      have e : i = m := by omega
      subst e
      have HX := Lib.hid hx
      have HB := Lib.hid hB
      clear hx hB
      go_wp2
      go_ret
      exact ⟨by have h5 := HX.out; subst h5; rfl, HB.out⟩
set_option maxRecDepth 100000 in
theorem Rb.setK {w : World} {q c k : Nat} {A : Option Addr} {b : List UInt8} (h : Rb w q A c b k) (k' : Nat) (hk : k' ≤ 8 * b.length) : Rb (w.setCell ⟨q, 1, none⟩ (.int .i64 (k' : Int))) q A c b k' :=
  ⟨h.blk.set 1 _, h.rd.frm ((Frm.refl _ w).setCell q 1 _ rfl), h.cap, h.max, h.big, hk⟩
set_option maxRecDepth 100000 in
set_option maxHeartbeats 400000 in
theorem bof_calls (A : Option Addr) (n c : Nat) (b : List UInt8) (w : World) (hn : n ≤ 140737488355328) (hr : Rd w A n b) :
    Calls Try.prog 34 #[.slice A n c] w fun e w' => ∃ q A' c', e = .returned (.pointer (some ⟨q, 0, none⟩)) ∧ w.heap.size ≤ q ∧ Rb w' q A' c' b 0 ∧ (∀ g, blkOf A' = some g → w.heap.size ≤ g ∧ g < w'.heap.size) ∧ Below w.heap.size w w' := by
  have HL := Lib.hid hr.len
  have HC := Lib.hid (clone_calls A n c b w hn hr)
  clear hr
  go_enter Try.func34, Try.ntmps34
  go_wp2_with (go_at_call 54; refine HC.out.mono ?_; rintro e' w1 ⟨A1, n1, c1, rfl, ho1, hb1⟩)
  go_ret
  have hl := ho1.len
  have hcp := own_cap ho1
  subst hl
  have hlt := fun g (hg : blkOf A1 = some g) => ho1.lt hg
  refine ⟨_, A1, c1, rfl, hb1.size, ⟨Blk.new _ _ _, ?_, hcp.1, hcp.2, by rw [HL.out]; exact hn, Nat.zero_le _⟩, fun g hg => ⟨(hlt g hg).2, by have := (hlt g hg).1; simp; omega⟩, below_al hb1 _⟩
  exact RdF.turn (S := fun _ => False) (T := fun i => i = w1.heap.size) (RdF.own ho1 (fun i hi => hi.elim)) (Frm.of_below ((Below.refl _ w1).alloc (Nat.le_refl _) _)) (fun i hi => .inr (Nat.le_of_eq hi.symm))
set_option maxRecDepth 100000 in
set_option maxHeartbeats 2000000 in
theorem btake_calls (w : World) (q : Nat) (A : Option Addr) (c : Nat) (b : List UInt8) (k : Nat) (hR : Rb w q A c b k) (n : Int) :
    Calls Try.prog 62 #[.pointer (some ⟨q, 0, none⟩), .int .i64 n] w fun e w' => ∃ k', e = .returned (.tuple #[.int .u64 (btV ((unp b).drop k) (hld n 64) : Int), .int .i64 (btE ((unp b).drop k) (hld n 64) : Int)]) ∧ Rb w' q A c b k' ∧ (unp b).drop k' = btL ((unp b).drop k) (hld n 64) ∧ Frm (fun i => i = q) w w' := by
  obtain ⟨K, hK⟩ : ∃ z, z = hld n 64 := ⟨_, rfl⟩
  have hKl : K ≤ 64 := hK ▸ hld_le n 64
  have CC : Hid (∀ W, Calls Try.prog 98 #[.int .i64 n, .int .i64 64] W (fun e w' => e = .returned (.int .i64 (K : Int)) ∧ W = w')) := Lib.hid fun W => by rw [hK]; exact bclamp_calls n 64 (by omega) W
  obtain ⟨m, hm⟩ : ∃ m, m = 8 * b.length - k := ⟨_, rfl⟩
  have hread := hR.read
  have hbig := hR.big
  have hlen : ((unp b).drop k).length = m := by rw [List.length_drop, unp_len, hm]
  have CL : Hid (∀ W, Below w.heap.size w W → Calls Try.prog 63 #[.pointer (some ⟨q, 0, none⟩)] W (Ret W (.int .i64 (m : Int)))) := Lib.hid fun W hB => bleft_calls W q A c b k (hR.below hB) m (by omega)
  have hmb : m ≤ 2000000000000000 := by omega
  have hkb : k ≤ 2000000000000000 := by omega
  rw [← hK]
  have HR := Lib.hid hR
  unfold btV btE btL
  rw [hlen]
  by_cases hlt : m < K
  · have hlt' : (m : Int) < (K : Int) := by omega
    rw [if_pos hlt, if_pos hlt, if_pos hlt]
    clear hR hK hm hread hbig hlen
    go_enter Try.func62, Try.ntmps62
    go_wp2_with (first
      | (go_at_call 98; refine (CC.out _).mono ?_; rintro e' w' ⟨rfl, rfl⟩)
      | (go_at_call 63; refine (CL.out _ (Below.refl _ _)).mono ?_; rintro e' w1 ⟨rfl, hB1⟩))
    go_ret2
    exact ⟨k, rfl, HR.out.below hB1, rfl, Frm.of_below hB1⟩
  · have hlt' : ¬ (m : Int) < (K : Int) := by omega
    rw [if_neg hlt, if_neg hlt, if_neg hlt]
    obtain ⟨V, hV⟩ : ∃ z, z = num (((unp b).drop k).take K) := ⟨_, rfl⟩
    have CA : Hid (∀ W, Below w.heap.size w W → Calls Try.prog 64 #[.pointer (some ⟨q, 0, none⟩), .int .i64 (K : Int)] W (Ret W (.int .u64 (V : Int)))) := Lib.hid fun W hB => by rw [hV]; exact bahead_calls W q A c b k (hR.below hB) K (by omega) hKl
    have HE : Hid ((unp b).drop (k + K) = ((unp b).drop k).drop K) := Lib.hid (by rw [List.drop_drop])
    have HK8 : Hid (k + K ≤ 8 * b.length) := Lib.hid (by omega)
    obtain ⟨J, hJ⟩ : ∃ z, z = k + K := ⟨_, rfl⟩
    have a1 : (k : Int) + (K : Int) = (J : Int) := by omega
    have hJb : J ≤ 4000000000000000 := by omega
    rw [← hV]
    rw [← hJ] at HE HK8
    clear hR hK hm hread hbig hlen hV hJ
    go_enter Try.func62, Try.ntmps62
    go_wp2_with (first
      | (go_at_call 98; refine (CC.out _).mono ?_; rintro e' w' ⟨rfl, rfl⟩)
      | (go_at_call 63; refine (CL.out _ (Below.refl _ _)).mono ?_; rintro e' w1 ⟨rfl, hB1⟩)
      | (go_at_call 64; refine (CA.out _ hB1).mono ?_; rintro e' w2 ⟨rfl, hB2⟩
         have hB := below_more hB1 hB2
         have hR2 := HR.out.below hB
         have d1 : w2.cell? ⟨q, 1, none⟩ = some (.int .i64 (k : Int)) := hR2.blk.cell 1
         have d2 : w2.frozen? ⟨q, 1, none⟩ = false := hR2.blk.free 1))
    go_ret2
    exact ⟨J, rfl, hR2.setK J HK8.out, HE.out, (Frm.of_below hB).setCell q 1 _ rfl⟩
end Go.Proofs.Ytplnmjdafchjbaa

/- Package bit: Run, Clean. -/
namespace Go.Proofs.Ytplnmjdafchjbaa
open Go.RowKit
set_option linter.unusedVariables false
set_option linter.unusedSimpArgs false

set_option maxRecDepth 100000 in
theorem ones_eq (l : List Bool) (i : Nat) (hall : ∀ j, j < i → l[j]? = some true) (hv : l[i]? = some false) : ones l = i := by
  have hl := (List.getElem?_eq_some_iff.1 hv).1
  have h1 := ones_ge l i (by omega) hall
  rcases Nat.lt_or_ge i (ones l) with h | h
  · have := ones_at l i h; rw [hv] at this; cases this
  · omega
set_option maxRecDepth 100000 in
theorem rn_stop (l : List Bool) (i M : Nat) (ho : ones l = i) (hM : i ≤ M) (hl : i < l.length) : rnV l M = i ∧ rnE l M = 0 ∧ rnL l M = l.drop (i + 1) := by
  have e : rnE l M = 0 := by unfold rnE; rw [ho, if_neg (by omega), if_neg (by omega)]
  exact ⟨by unfold rnV; rw [if_pos e, ho], e, by unfold rnL; rw [if_pos e, ho]⟩
set_option maxRecDepth 100000 in
theorem rn_big (l : List Bool) (M : Nat) (h : M < ones l) : rnV l M = 0 ∧ rnE l M = 4 ∧ rnL l M = l := by
  have e : rnE l M = 4 := by unfold rnE; rw [if_pos h]
  exact ⟨by unfold rnV; rw [if_neg (by omega)], e, by unfold rnL; rw [if_neg (by omega)]⟩
set_option maxRecDepth 100000 in
theorem rn_end (l : List Bool) (M i : Nat) (hi : i = l.length) (hall : ∀ j, j < i → l[j]? = some true) (hM : i ≤ M) : rnV l M = 0 ∧ rnE l M = 2 ∧ rnL l M = l := by
  have h1 := ones_ge l i (by omega) hall
  have h2 := ones_le l
  have e : rnE l M = 2 := by unfold rnE; rw [if_neg (by omega), if_pos (by omega)]
  exact ⟨by unfold rnV; rw [if_neg (by omega)], e, by unfold rnL; rw [if_neg (by omega)]⟩
set_option maxRecDepth 100000 in
set_option maxHeartbeats 4000000 in
theorem brun_calls (w : World) (q : Nat) (A : Option Addr) (c : Nat) (b : List UInt8) (k : Nat) (hR : Rb w q A c b k) (most : Int) (hmost : most ≤ 9223372036854775807) :
    Calls Try.prog 61 #[.pointer (some ⟨q, 0, none⟩), .int .i64 most] w fun e w' => ∃ k', e = .returned (.tuple #[.int .i64 (rnV ((unp b).drop k) most.toNat : Int), .int .i64 (rnE ((unp b).drop k) most.toNat : Int)]) ∧ Rb w' q A c b k' ∧ (unp b).drop k' = rnL ((unp b).drop k) most.toNat ∧ Frm (fun i => i = q) w w' := by
  obtain ⟨l, hl⟩ : ∃ z, z = (unp b).drop k := ⟨_, rfl⟩
  obtain ⟨m, hm⟩ : ∃ m, m = 8 * b.length - k := ⟨_, rfl⟩
  have hread := hR.read
  have hbig := hR.big
  have hlen : l.length = m := by rw [hl, List.length_drop, unp_len, hm]
  have hkm : k + m = 8 * b.length := by omega
  have CL : Hid (∀ W, Below w.heap.size w W → Calls Try.prog 63 #[.pointer (some ⟨q, 0, none⟩)] W (Ret W (.int .i64 (m : Int)))) := Lib.hid fun W hB => bleft_calls W q A c b k (hR.below hB) m (by omega)
  have HA : Hid (∀ W, Below w.heap.size w W → ∀ i v, l[i]? = some v → Calls Try.prog 97 #[.pointer (some ⟨q, 0, none⟩), .int .i64 ((k + i : Nat) : Int)] W (fun e w' => e = .returned (.int .u8 (v.toNat : Int)) ∧ W = w')) :=
    Lib.hid fun W hB i v hv => bat_calls W q A c b k (hR.below hB) (k + i) v (by rw [hl, List.getElem?_drop] at hv; exact hv)
  have hmb : m ≤ 2000000000000000 := by omega
  have hkb : k ≤ 2000000000000000 := by omega
  have HR := Lib.hid hR
  have HL := Lib.hid hl
  rw [← hl]
  obtain ⟨M, hM⟩ : ∃ z, z = most.toNat := ⟨_, rfl⟩
  rw [← hM]
  clear hR hm hread hl
  by_cases h0 : most < 0
  · have h1 : ¬ 0 < most := by omega
    have h2 : most ≤ 0 := by omega
    have h3 : ¬ 0 ≤ most := by omega
    have HM0 : Hid (M = 0) := Lib.hid (by omega)
    clear hM
    go_enter Try.func61, Try.ntmps61
    go_upto_region 2 with fail
    clear h0 h1 h2 h3
    go_wp2_with (go_at_call 63; refine (CL.out _ (Below.refl _ _)).mono ?_; rintro e' w1 ⟨rfl, hB1⟩)
    go_loopw [11] (fun cv wr => ∃ (i : Nat), i ≤ m ∧ i ≤ M ∧ cv = .int .i64 (i : Int) ∧ (∀ j, j < i → l[j]? = some true) ∧ Below w.heap.size w wr) (fun cv _ => m - (intOf cv).toNat)
    case atStart => exact ⟨0, Nat.zero_le _, Nat.zero_le _, rfl, fun j hj => absurd hj (by omega), hB1⟩
    case round =>
      obtain ⟨i, him, hiM, rfl, hall, hB⟩ := hrel
      by_cases hlt : i < m
      · have hlt' : (i : Int) < (m : Int) := by omega
        obtain ⟨v, hv⟩ : ∃ v, l[i]? = some v := ⟨_, List.getElem?_eq_getElem (by omega)⟩
        have hRr := HR.out.below hB
        have hc1 : wr.cell? ⟨q, 1, none⟩ = some (.int .i64 (k : Int)) := hRr.blk.cell 1
        have hz1 : wr.frozen? ⟨q, 1, none⟩ = false := hRr.blk.free 1
        obtain ⟨J, hJ⟩ : ∃ z, z = k + i := ⟨_, rfl⟩
        have a1 : (k : Int) + (i : Int) = (J : Int) := by omega
        have hJb : J ≤ 4000000000000000 := by omega
        cases v with
        | false =>
          have ho := ones_eq l i hall hv
          have HP : Hid (rnV l M = i ∧ rnE l M = 0 ∧ rnL l M = l.drop (i + 1)) := Lib.hid (rn_stop l i M ho (by omega) (by omega))
          have CA : Hid (Calls Try.prog 97 #[.pointer (some ⟨q, 0, none⟩), .int .i64 (J : Int)] wr (fun e w' => e = .returned (.int .u8 0) ∧ wr = w')) := Lib.hid (by rw [hJ]; exact HA.out wr hB i false hv)
          have HK8 : Hid (k + (i + 1) ≤ 8 * b.length) := Lib.hid (by omega)
          obtain ⟨I1, hI1⟩ : ∃ z, z = i + 1 := ⟨_, rfl⟩
          obtain ⟨J2, hJ2⟩ : ∃ z, z = k + I1 := ⟨_, rfl⟩
          have a2 : (i : Int) + 1 = (I1 : Int) := by omega
          have a3 : (k : Int) + (I1 : Int) = (J2 : Int) := by omega
          have hJ2b : J2 ≤ 5000000000000000 := by omega
          have HE : Hid ((unp b).drop J2 = l.drop (i + 1)) := Lib.hid (by rw [hJ2, hI1, HL.out, List.drop_drop])
          rw [← hI1, ← hJ2] at HK8
          have HX := Lib.hid (And.intro hB hRr)
          clear hB hRr hall hv ho hJ hI1 hJ2
          go_wp2_with (go_at_call 97; refine CA.out.mono ?_; rintro e' w' ⟨rfl, rfl⟩)
          go_ret2
          obtain ⟨p1, p2, p3⟩ := HP.out
          rw [p1, p2, p3]
          first | exact ⟨J2, rfl, HX.out.2.setK J2 HK8.out, HE.out, (Frm.of_below HX.out.1).setCell q 1 _ rfl⟩ | exact ⟨rfl, J2, HX.out.2.setK J2 HK8.out, HE.out, (Frm.of_below HX.out.1).setCell q 1 _ rfl⟩
        | true =>
          have CA : Hid (Calls Try.prog 97 #[.pointer (some ⟨q, 0, none⟩), .int .i64 (J : Int)] wr (fun e w' => e = .returned (.int .u8 1) ∧ wr = w')) := Lib.hid (by rw [hJ]; exact HA.out wr hB i true hv)
          have hall' : ∀ j, j < i + 1 → l[j]? = some true := fun j hj => by
            rcases Nat.lt_or_ge j i with h | h
            · exact hall j h
            · have : j = i := by omega
              rw [this]; exact hv
          have hge := ones_ge l (i + 1) (by omega) hall'
          by_cases heq : i = M
          · have HP : Hid (rnV l M = 0 ∧ rnE l M = 4 ∧ rnL l M = l) := Lib.hid (rn_big l M (by omega))
            have HX := Lib.hid (And.intro hB hRr)
            clear hB hRr hall hv hall' hge hJ
            obtain rfl : i = 0 := by have := HM0.out; omega
            have hkJ : k = J := by omega
            subst hkJ
            clear a1 heq hiM
            go_wp2_with (go_at_call 97; refine CA.out.mono ?_; rintro e' w' ⟨rfl, rfl⟩)
            go_ret2
            obtain ⟨p1, p2, p3⟩ := HP.out
            rw [p1, p2, p3]
            first | exact ⟨k, rfl, HX.out.2, HL.out.symm, Frm.of_below HX.out.1⟩ | exact ⟨rfl, k, HX.out.2, HL.out.symm, Frm.of_below HX.out.1⟩
          · exact absurd heq (by have := HM0.out; omega)
      · have hlt' : ¬ (i : Int) < (m : Int) := by omega
        have e : i = m := by omega
        have HP : Hid (rnV l M = 0 ∧ rnE l M = 2 ∧ rnL l M = l) := Lib.hid (rn_end l M i (by omega) hall hiM)
        have HX := Lib.hid (And.intro hB (HR.out.below hB))
        subst e
        clear hB hall
        go_wp2
        go_ret2
        obtain ⟨p1, p2, p3⟩ := HP.out
        rw [p1, p2, p3]
        first | exact ⟨k, rfl, HX.out.2, HL.out.symm, Frm.of_below HX.out.1⟩ | exact ⟨rfl, k, HX.out.2, HL.out.symm, Frm.of_below HX.out.1⟩

  · have h3 : 0 ≤ most := by omega
    obtain rfl : most = (M : Int) := by omega
    clear hM h0 h3
    go_enter Try.func61, Try.ntmps61
    go_upto_region 2 with fail
    go_wp2_with (go_at_call 63; refine (CL.out _ (Below.refl _ _)).mono ?_; rintro e' w1 ⟨rfl, hB1⟩)
    go_loopw [11] (fun cv wr => ∃ (i : Nat), i ≤ m ∧ i ≤ M ∧ cv = .int .i64 (i : Int) ∧ (∀ j, j < i → l[j]? = some true) ∧ Below w.heap.size w wr) (fun cv _ => m - (intOf cv).toNat)
    case atStart => exact ⟨0, Nat.zero_le _, Nat.zero_le _, rfl, fun j hj => absurd hj (by omega), hB1⟩
    case round =>
      obtain ⟨i, him, hiM, rfl, hall, hB⟩ := hrel
      by_cases hlt : i < m
      · have hlt' : (i : Int) < (m : Int) := by omega
        obtain ⟨v, hv⟩ : ∃ v, l[i]? = some v := ⟨_, List.getElem?_eq_getElem (by omega)⟩
        have hRr := HR.out.below hB
        have hc1 : wr.cell? ⟨q, 1, none⟩ = some (.int .i64 (k : Int)) := hRr.blk.cell 1
        have hz1 : wr.frozen? ⟨q, 1, none⟩ = false := hRr.blk.free 1
        obtain ⟨J, hJ⟩ : ∃ z, z = k + i := ⟨_, rfl⟩
        have a1 : (k : Int) + (i : Int) = (J : Int) := by omega
        have hJb : J ≤ 4000000000000000 := by omega
        cases v with
        | false =>
          have ho := ones_eq l i hall hv
          have HP : Hid (rnV l M = i ∧ rnE l M = 0 ∧ rnL l M = l.drop (i + 1)) := Lib.hid (rn_stop l i M ho (by omega) (by omega))
          have CA : Hid (Calls Try.prog 97 #[.pointer (some ⟨q, 0, none⟩), .int .i64 (J : Int)] wr (fun e w' => e = .returned (.int .u8 0) ∧ wr = w')) := Lib.hid (by rw [hJ]; exact HA.out wr hB i false hv)
          have HK8 : Hid (k + (i + 1) ≤ 8 * b.length) := Lib.hid (by omega)
          obtain ⟨I1, hI1⟩ : ∃ z, z = i + 1 := ⟨_, rfl⟩
          obtain ⟨J2, hJ2⟩ : ∃ z, z = k + I1 := ⟨_, rfl⟩
          have a2 : (i : Int) + 1 = (I1 : Int) := by omega
          have a3 : (k : Int) + (I1 : Int) = (J2 : Int) := by omega
          have hJ2b : J2 ≤ 5000000000000000 := by omega
          have HE : Hid ((unp b).drop J2 = l.drop (i + 1)) := Lib.hid (by rw [hJ2, hI1, HL.out, List.drop_drop])
          rw [← hI1, ← hJ2] at HK8
          have HX := Lib.hid (And.intro hB hRr)
          clear hB hRr hall hv ho hJ hI1 hJ2
          go_wp2_with (go_at_call 97; refine CA.out.mono ?_; rintro e' w' ⟨rfl, rfl⟩)
          go_ret2
          obtain ⟨p1, p2, p3⟩ := HP.out
          rw [p1, p2, p3]
          first | exact ⟨J2, rfl, HX.out.2.setK J2 HK8.out, HE.out, (Frm.of_below HX.out.1).setCell q 1 _ rfl⟩ | exact ⟨rfl, J2, HX.out.2.setK J2 HK8.out, HE.out, (Frm.of_below HX.out.1).setCell q 1 _ rfl⟩
        | true =>
          have CA : Hid (Calls Try.prog 97 #[.pointer (some ⟨q, 0, none⟩), .int .i64 (J : Int)] wr (fun e w' => e = .returned (.int .u8 1) ∧ wr = w')) := Lib.hid (by rw [hJ]; exact HA.out wr hB i true hv)
          have hall' : ∀ j, j < i + 1 → l[j]? = some true := fun j hj => by
            rcases Nat.lt_or_ge j i with h | h
            · exact hall j h
            · have : j = i := by omega
              rw [this]; exact hv
          have hge := ones_ge l (i + 1) (by omega) hall'
          by_cases heq : i = M
          · have HP : Hid (rnV l M = 0 ∧ rnE l M = 4 ∧ rnL l M = l) := Lib.hid (rn_big l M (by omega))
            have HX := Lib.hid (And.intro hB hRr)
            clear hB hRr hall hv hall' hge hJ
            subst heq
            go_wp2_with (go_at_call 97; refine CA.out.mono ?_; rintro e' w' ⟨rfl, rfl⟩)
            go_ret2
            obtain ⟨p1, p2, p3⟩ := HP.out
            rw [p1, p2, p3]
            first | exact ⟨k, rfl, HX.out.2, HL.out.symm, Frm.of_below HX.out.1⟩ | exact ⟨rfl, k, HX.out.2, HL.out.symm, Frm.of_below HX.out.1⟩
          · have heq' : ¬ (i : Int) = (M : Int) := by omega
            have HX := Lib.hid (And.intro hB hall')
            have hiM1 : i + 1 ≤ M := by omega
            clear hB hRr hall hv hall' hge hJ
            go_wp2_with (go_at_call 97; refine CA.out.mono ?_; rintro e' w' ⟨rfl, rfl⟩)
            go_roundw
            case rel => exact ⟨i + 1, by omega, hiM1, by go_num, HX.out.2, HX.out.1⟩
            case measure => simp [intOf]; omega
      · have hlt' : ¬ (i : Int) < (m : Int) := by omega
        have e : i = m := by omega
        have HP : Hid (rnV l M = 0 ∧ rnE l M = 2 ∧ rnL l M = l) := Lib.hid (rn_end l M i (by omega) hall hiM)
        have HX := Lib.hid (And.intro hB (HR.out.below hB))
        subst e
        clear hB hall
        go_wp2
        go_ret2
        obtain ⟨p1, p2, p3⟩ := HP.out
        rw [p1, p2, p3]
        first | exact ⟨k, rfl, HX.out.2, HL.out.symm, Frm.of_below HX.out.1⟩ | exact ⟨rfl, k, HX.out.2, HL.out.symm, Frm.of_below HX.out.1⟩

set_option maxRecDepth 100000 in
set_option maxHeartbeats 4000000 in
theorem bclean_calls (w : World) (q : Nat) (A : Option Addr) (c : Nat) (b : List UInt8) (k : Nat) (hR : Rb w q A c b k) :
    Calls Try.prog 38 #[.pointer (some ⟨q, 0, none⟩)] w (Ret w (.bool (cln ((unp b).drop k)))) := by
  obtain ⟨l, hl⟩ : ∃ z, z = (unp b).drop k := ⟨_, rfl⟩
  obtain ⟨m, hm⟩ : ∃ m, m = 8 * b.length - k := ⟨_, rfl⟩
  have hread := hR.read
  have hbig := hR.big
  have hlen : l.length = m := by rw [hl, List.length_drop, unp_len, hm]
  have hkm : k + m = 8 * b.length := by omega
  have CL : Hid (∀ W, Below w.heap.size w W → Calls Try.prog 63 #[.pointer (some ⟨q, 0, none⟩)] W (Ret W (.int .i64 (m : Int)))) := Lib.hid fun W hB => bleft_calls W q A c b k (hR.below hB) m (by omega)
  rw [← hl]
  unfold cln
  rw [hlen]
  by_cases h8 : m < 8
  · have h8' : (m : Int) < 8 := by omega
    rw [decide_eq_true h8, Bool.true_and]
    obtain ⟨V, hV⟩ : ∃ z, z = num l := ⟨_, rfl⟩
    have hVb : V < 18446744073709551616 := by
      have h1 := num_lt l
      rw [hlen] at h1
      have h2 : 2 ^ m ≤ 2 ^ 63 := Nat.pow_le_pow_right (by omega) (by omega)
      omega
    have CA : Hid (∀ W, Below w.heap.size w W → Calls Try.prog 64 #[.pointer (some ⟨q, 0, none⟩), .int .i64 (m : Int)] W (Ret W (.int .u64 (V : Int)))) := Lib.hid fun W hB => by
      have := bahead_calls W q A c b k (hR.below hB) m (by omega) (by omega)
      rw [← hl, List.take_of_length_le (by omega), ← hV] at this
      exact this
    rw [← hV]
    obtain ⟨B, hB0⟩ : ∃ B : Bool, B = decide (V = 0) := ⟨_, rfl⟩
    have hB1 : decide ((V : Int) = 0) = B := by rw [hB0]; simp
    rw [← hB0]
    clear hR hm hread hbig hlen hl hV hkm hB0 h8
    go_enter Try.func38, Try.ntmps38
    go_wp2_with (first
      | (go_at_call 63; refine (CL.out _ (Below.refl _ _)).mono ?_; rintro e' w1 ⟨rfl, hb1⟩)
      | (go_at_call 64; refine (CA.out _ hb1).mono ?_; rintro e' w2 ⟨rfl, hb2⟩))
    go_ret
    exact ⟨by first | rfl | (simp; done) | (rw [← hB1]; simp; by_cases h : V = 0 <;> simp [h]), below_more hb1 hb2⟩
  · have h8' : ¬ (m : Int) < 8 := by omega
    rw [decide_eq_false h8, Bool.false_and]
    clear hR hm hread hbig hlen hl hkm h8
    go_enter Try.func38, Try.ntmps38
    go_wp2_with (first
      | (go_at_call 63; refine (CL.out _ (Below.refl _ _)).mono ?_; rintro e' w1 ⟨rfl, hb1⟩))
    go_ret
    exact ⟨rfl, hb1⟩
end Go.Proofs.Ytplnmjdafchjbaa
