/- Package bit: Of, ahead, Take, Run, Clean. -/
import Derived.Test.YtkmedbdaobficaaBitD
import Derived.Deep.RegionHeld3
import Derived.Deep.CutRange
import Derived.Deep.DeepCutAuto
namespace Go.Proofs.Ytkmedbdaobficaa
open Go.RowKit
set_option linter.unusedVariables false
set_option linter.unusedSimpArgs false

set_option maxRecDepth 100000 in
theorem or1_nat (x z : Nat) (hx : x < 9223372036854775808) (hz : z < 2) : bits .or .u64 ((2 * x : Nat) : Int) (z : Int) = ((2 * x + z : Nat) : Int) := by
  show IntKind.u64.wrap ((BitVec.ofInt 64 ((2 * x : Nat) : Int) ||| BitVec.ofInt 64 (z : Int)).toNat : Int) = _
  have e1 : (BitVec.ofInt 64 ((2 * x : Nat) : Int)).toNat = 2 * x := by rw [BitVec.toNat_ofInt]; omega
  have e2 : (BitVec.ofInt 64 (z : Int)).toNat = z := by rw [BitVec.toNat_ofInt]; omega
  have e3 := Nat.two_pow_add_eq_or_of_lt (i := 1) (b := z) (by omega) x
  rw [BitVec.toNat_or, e1, e2, IntKind.wrap_u64, show 2 * x = 2 ^ 1 * x from by omega, ← e3]
  omega
set_option maxRecDepth 100000 in
set_option maxHeartbeats 2000000 in
theorem bahead_calls (w : World) (q : Nat) (A : Option Addr) (c : Nat) (b : List UInt8) (k : Nat) (hR : Rb w q A c b k) (m : Nat) (hm : k + m ≤ 8 * b.length) (hm64 : m ≤ 64) :
    Calls Try.prog 37 #[.pointer (some ⟨q, 0, none⟩), .int .i64 (m : Int)] w (Ret w (.int .u64 (num (((unp b).drop k).take m) : Int))) := by
  obtain ⟨l, hl⟩ : ∃ z, z = (unp b).drop k := ⟨_, rfl⟩
  have hll : m ≤ l.length := by rw [hl, List.length_drop, unp_len]; omega
  have hbig := hR.big
  have hk53 : k ≤ 1125899906842624 := by have := hR.read; omega
  have HA : Hid (∀ W, Below w.heap.size w W → ∀ i v, l[i]? = some v → Calls Try.prog 40 #[.pointer (some ⟨q, 0, none⟩), .int .i64 ((k + i : Nat) : Int)] W (fun e w' => e = .returned (.int .u8 (v.toNat : Int)) ∧ W = w')) :=
    Lib.hid fun W hB i v hv => bat_calls W q A c b k (hR.below hB) (k + i) v (by rw [hl, List.getElem?_drop] at hv; exact hv)
  have HR : Hid (∀ W, Below w.heap.size w W → W.cell? ⟨q, 1, none⟩ = some (.int .i64 (k : Int))) := Lib.hid fun W hB => (hR.below hB).blk.cell 1
  rw [← hl]
  clear hR hl hm hbig
  go_enter Try.func37, Try.ntmps37
  go_wp2
  go_loopw [5, 8] (fun nv cv wr => ∃ (i x : Nat), i ≤ m ∧ cv = .int .i64 (i : Int) ∧ nv = .int .u64 (x : Int) ∧ x = num (l.take i) ∧ Below w.heap.size w wr) (fun _ cv _ => m - (intOf cv).toNat)
  case atStart => exact ⟨0, 0, Nat.zero_le _, rfl, rfl, rfl, Below.refl _ _⟩
  case round =>
    obtain ⟨i, x, hi, rfl, rfl, hx, hB⟩ := hrel
    by_cases hlt : i < m
    · have hlt' : (i : Int) < (m : Int) := by omega
      obtain ⟨v, hv⟩ : ∃ v, l[i]? = some v := ⟨_, List.getElem?_eq_getElem (by omega)⟩
      have hc1 := HR.out wr hB
      obtain ⟨J, hJ⟩ : ∃ z, z = k + i := ⟨_, rfl⟩
      obtain ⟨z, hz⟩ : ∃ z, z = v.toNat := ⟨_, rfl⟩
      have hz2 : z < 2 := hz ▸ bit_lt v
      have CA : Hid (Calls Try.prog 40 #[.pointer (some ⟨q, 0, none⟩), .int .i64 (J : Int)] wr (fun e w' => e = .returned (.int .u8 (z : Int)) ∧ wr = w')) := Lib.hid (by rw [hJ, hz]; exact HA.out wr hB i v hv)
      have a1 : (k : Int) + (i : Int) = (J : Int) := by omega
      have hxl : x < 9223372036854775808 := by
        have h1 := num_lt (l.take i)
        rw [List.length_take, Nat.min_eq_left (by omega)] at h1
        have h2 : 2 ^ i ≤ 2 ^ 63 := Nat.pow_le_pow_right (by omega) (by omega)
        omega
      obtain ⟨y, hy⟩ : ∃ y, y = 2 * x := ⟨_, rfl⟩
      obtain ⟨u, hu⟩ : ∃ u, u = 2 * x + z := ⟨_, rfl⟩
      have a2 : (x : Int) * 2 = (y : Int) := by omega
      have a3 : IntKind.u64.wrap (y : Int) = (y : Int) := by rw [IntKind.wrap_u64]; omega
      have a4 : bits .or .u64 (y : Int) (z : Int) = (u : Int) := by rw [hy, hu]; exact or1_nat x z hxl hz2
      have hJb : J ≤ 2000000000000000 := by omega
      have HX : Hid (u = num (l.take (i + 1))) := Lib.hid (by rw [num_take l i v hv, ← hx, ← hz, hu])
      have HB := Lib.hid hB
      clear hB hx hv hJ hz hy hu
      go_wp2_with (go_at_call 40; refine CA.out.mono ?_; rintro e' w' ⟨rfl, rfl⟩)
      go_roundw
      case rel => exact ⟨i + 1, u, by omega, by go_num, rfl, HX.out, HB.out⟩
      case measure => simp [intOf]; omega
    · have hlt' : ¬ (i : Int) < (m : Int) := by omega
      have e : i = m := by omega
      subst e
      have HX := Lib.hid hx
      have HB := Lib.hid hB
      clear hx hB
      go_wp2
      go_ret
      exact ⟨by have h5 := HX.out; subst h5; rfl, HB.out⟩
set_option maxRecDepth 100000 in
theorem Rb.setK {w : World} {q c k : Nat} {A : Option Addr} {b : List UInt8} (h : Rb w q A c b k) (k' : Nat) (hk : k' ≤ 8 * b.length) : Rb (w.setCell ⟨q, 1, none⟩ (.int .i64 (k' : Int))) q A c b k' :=
  ⟨h.blk.set 1 _, h.rd.frm ((Frm.refl _ w).setCell q 1 _ rfl), h.cap, h.max, h.big, hk⟩
set_option maxRecDepth 100000 in
set_option maxHeartbeats 400000 in
theorem bof_calls (A : Option Addr) (n c : Nat) (b : List UInt8) (w : World) (hn : n ≤ 140737488355328) (hr : Rd w A n b) :
    Calls Try.prog 18 #[.slice A n c] w fun e w' => ∃ q A' c', e = .returned (.pointer (some ⟨q, 0, none⟩)) ∧ w.heap.size ≤ q ∧ Rb w' q A' c' b 0 ∧ (∀ g, blkOf A' = some g → w.heap.size ≤ g ∧ g < w'.heap.size) ∧ Below w.heap.size w w' := by
  have HL := Lib.hid hr.len
  have HC := Lib.hid (clone_calls A n c b w hn hr)
  clear hr
  go_enter Try.func18, Try.ntmps18
  go_wp2_with (go_at_call 31; refine HC.out.mono ?_; rintro e' w1 ⟨A1, n1, c1, rfl, ho1, hb1⟩)
  go_ret
  have hl := ho1.len
  have hcp := own_cap ho1
  subst hl
  have hlt := fun g (hg : blkOf A1 = some g) => ho1.lt hg
  refine ⟨_, A1, c1, rfl, hb1.size, ⟨Blk.new _ _ _, ?_, hcp.1, hcp.2, by rw [HL.out]; exact hn, Nat.zero_le _⟩, fun g hg => ⟨(hlt g hg).2, by have := (hlt g hg).1; simp; omega⟩, below_al hb1 _⟩
  exact RdF.turn (S := fun _ => False) (T := fun i => i = w1.heap.size) (RdF.own ho1 (fun i hi => hi.elim)) (Frm.of_below ((Below.refl _ w1).alloc (Nat.le_refl _) _)) (fun i hi => .inr (Nat.le_of_eq hi.symm))
set_option maxRecDepth 100000 in
set_option maxHeartbeats 2000000 in
theorem btake_calls (w : World) (q : Nat) (A : Option Addr) (c : Nat) (b : List UInt8) (k : Nat) (hR : Rb w q A c b k) (n : Int) :
    Calls Try.prog 34 #[.pointer (some ⟨q, 0, none⟩), .int .i64 n] w fun e w' => ∃ k', e = .returned (.tuple #[.int .u64 (btV ((unp b).drop k) (hld n 64) : Int), .int .i64 (btE ((unp b).drop k) (hld n 64) : Int)]) ∧ Rb w' q A c b k' ∧ (unp b).drop k' = btL ((unp b).drop k) (hld n 64) ∧ Frm (fun i => i = q) w w' := by
  obtain ⟨K, hK⟩ : ∃ z, z = hld n 64 := ⟨_, rfl⟩
  have hKl : K ≤ 64 := hK ▸ hld_le n 64
  have CC : Hid (∀ W, Calls Try.prog 38 #[.int .i64 n, .int .i64 64] W (fun e w' => e = .returned (.int .i64 (K : Int)) ∧ W = w')) := Lib.hid fun W => by rw [hK]; exact bclamp_calls n 64 (by omega) W
  obtain ⟨m, hm⟩ : ∃ m, m = 8 * b.length - k := ⟨_, rfl⟩
  have hread := hR.read
  have hbig := hR.big
  have hlen : ((unp b).drop k).length = m := by rw [List.length_drop, unp_len, hm]
  have CL : Hid (∀ W, Below w.heap.size w W → Calls Try.prog 22 #[.pointer (some ⟨q, 0, none⟩)] W (Ret W (.int .i64 (m : Int)))) := Lib.hid fun W hB => bleft_calls W q A c b k (hR.below hB) m (by omega)
  have hmb : m ≤ 2000000000000000 := by omega
  have hkb : k ≤ 2000000000000000 := by omega
  rw [← hK]
  have HR := Lib.hid hR
  unfold btV btE btL
  rw [hlen]
  by_cases hlt : m < K
  · have hlt' : (m : Int) < (K : Int) := by omega
    rw [if_pos hlt, if_pos hlt, if_pos hlt]
    clear hR hK hm hread hbig hlen
    go_enter Try.func34, Try.ntmps34
    go_wp2_with (first
      | (go_at_call 38; refine (CC.out _).mono ?_; rintro e' w' ⟨rfl, rfl⟩)
      | (go_at_call 22; refine (CL.out _ (Below.refl _ _)).mono ?_; rintro e' w1 ⟨rfl, hB1⟩))
    go_ret2
    exact ⟨k, rfl, HR.out.below hB1, rfl, Frm.of_below hB1⟩
  · have hlt' : ¬ (m : Int) < (K : Int) := by omega
    rw [if_neg hlt, if_neg hlt, if_neg hlt]
    obtain ⟨V, hV⟩ : ∃ z, z = num (((unp b).drop k).take K) := ⟨_, rfl⟩
    have CA : Hid (∀ W, Below w.heap.size w W → Calls Try.prog 37 #[.pointer (some ⟨q, 0, none⟩), .int .i64 (K : Int)] W (Ret W (.int .u64 (V : Int)))) := Lib.hid fun W hB => by rw [hV]; exact bahead_calls W q A c b k (hR.below hB) K (by omega) hKl
    have HE : Hid ((unp b).drop (k + K) = ((unp b).drop k).drop K) := Lib.hid (by rw [List.drop_drop])
    have HK8 : Hid (k + K ≤ 8 * b.length) := Lib.hid (by omega)
    obtain ⟨J, hJ⟩ : ∃ z, z = k + K := ⟨_, rfl⟩
    have a1 : (k : Int) + (K : Int) = (J : Int) := by omega
    have hJb : J ≤ 4000000000000000 := by omega
    rw [← hV]
    rw [← hJ] at HE HK8
    clear hR hK hm hread hbig hlen hV hJ
    go_enter Try.func34, Try.ntmps34
    go_wp2_with (first
      | (go_at_call 38; refine (CC.out _).mono ?_; rintro e' w' ⟨rfl, rfl⟩)
      | (go_at_call 22; refine (CL.out _ (Below.refl _ _)).mono ?_; rintro e' w1 ⟨rfl, hB1⟩)
      | (go_at_call 37; refine (CA.out _ hB1).mono ?_; rintro e' w2 ⟨rfl, hB2⟩
         have hB := below_more hB1 hB2
         have hR2 := HR.out.below hB
         have d1 : w2.cell? ⟨q, 1, none⟩ = some (.int .i64 (k : Int)) := hR2.blk.cell 1
         have d2 : w2.frozen? ⟨q, 1, none⟩ = false := hR2.blk.free 1))
    go_ret2
    exact ⟨J, rfl, hR2.setK J HK8.out, HE.out, (Frm.of_below hB).setCell q 1 _ rfl⟩
end Go.Proofs.Ytkmedbdaobficaa
