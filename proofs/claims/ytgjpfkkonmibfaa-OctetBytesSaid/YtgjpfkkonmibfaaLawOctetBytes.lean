/- Proved: for any number n and any width, Little and Great give the clamped number of n's lowest bytes, in either order; no condition. -/
import Derived.Test.YtgjpfkkonmibfaaRows
import Derived.Test.YtgjpfkkonmibfaaOctF
import Derived.ProofKit
import Derived.OpenShut
import Derived.ShutString
import Derived.ChangeOld
import Derived.Test.YtgjpfkkonmibfaaOpen
namespace Go.Proofs.Ytgjpfkkonmibfaa.octetBytes
open Go.ChangeShapes Go.WideShapes Go.ChangeAt Go.RowKit
open Go.ChangeMaps (open_string shut_string)
set_option linter.unusedVariables false

theorem own : ownKnob Try.prog.godebug = none := by kernel_rfl
theorem laidOut : laidOutB Try.prog = true := by kernel_rfl

theorem nat_of_wf64 {a : Int} (h : (Lit.int .u64 a).wf = true) : ∃ n : Nat, a = n ∧ n < 18446744073709551616 := by
  have := bounds_u64 h
  exact ⟨a.toNat, by omega, by omega⟩

/-- At place t of the three slices stands one and the same byte x. -/
theorem places (w : World) (n m t : Nat) (base1 : Nat) (A1 A2 A3 : Option Addr) (c1 : Nat) (h1 : OwnI w base1 A1 m c1 (digs n m)) (h2 : Rd w A2 m (little n m)) (h3 : Rd w A3 m (great n m)) (ht : t < m) :
    ∃ (x : Nat) (g b2 o2 b3 o3 : Nat), x < 256 ∧ A1 = some ⟨g, 0, none⟩ ∧ A2 = some ⟨b2, o2, none⟩ ∧ A3 = some ⟨b3, o3, none⟩ ∧ w.cell? ⟨g, t, none⟩ = some (.int .i64 (x : Int)) ∧
      w.cell? ⟨b2, o2 + t, none⟩ = some (.int .u8 (x : Int)) ∧ w.cell? ⟨b3, o3 + (m - 1 - t), none⟩ = some (.int .u8 (x : Int)) := by
  obtain ⟨g, hl1, e1, _, hc1⟩ := h1.at_ ht
  obtain ⟨b2, o2, hl2, e2, _, hc2⟩ := h2.at_ ht
  obtain ⟨b3, o3, hl3, e3, _, hc3⟩ := h3.at_ (k := m - 1 - t) (by omega)
  refine ⟨n / 256 ^ t % 256, g, b2, o2, b3, o3, Nat.mod_lt _ (by omega), e1, e2, e3, ?_, ?_, ?_⟩
  · rw [hc1]; simp [digs]
  · rw [hc2, little_get, ofNat_toNat]
  · rw [hc3, great_get, ofNat_toNat, show m - 1 - (m - 1 - t) = t from by omega]

set_option maxHeartbeats 1000000 in
theorem walk (a0 : Int) (k : Int) (w : World) (w0 : (Lit.int .u64 a0).wf = true) (w1 : (Lit.int .i64 k).wf = true) :
    Calls Try.prog 3 #[.int .u64 a0, .int .i64 k] w (Ret w (.bool true)) := by
  obtain ⟨n, rfl, hn⟩ := nat_of_wf64 w0
  obtain ⟨m, hm⟩ : ∃ m : Nat, cw k = m := ⟨(cw k).toNat, by have := cw_bd k; omega⟩
  have hm8 : m ≤ 8 := by have := cw_bd k; omega
  have HM := Lib.hid hm
  have HN := Lib.hid hn
  clear hm hn w0 w1
  go_enter Try.func3, Try.ntmps3
  go_wp2_with fail
  refine (held_nat _ _ HM.out _).mono ?_
  rintro e w1 ⟨rfl, rfl⟩
  go_wp2_with fail
  refine (digits_calls n m HN.out (by omega) _).mono ?_
  rintro e w1 ⟨A1, n1, c1, rfl, ho1, hb1⟩
  obtain rfl : m = n1 := by have := ho1.1; simpa [digs] using this
  have HO1 := Lib.hid ho1
  clear ho1
  go_wp2_with fail
  refine (little_calls n k m HM.out _).mono ?_
  rintro e w2 ⟨A2, n2, c2, rfl, ho2, hb2⟩
  obtain rfl : m = n2 := by have := ho2.1; simpa using this
  have HO2 := Lib.hid ho2.rd
  clear ho2
  go_wp2_with fail
  refine (great_calls n k m HM.out _).mono ?_
  rintro e w3 ⟨A3, n3, c3, rfl, ho3, hb3⟩
  obtain rfl : m = n3 := by have := ho3.1; simpa using this
  have HO3 := Lib.hid ho3.rd
  clear ho3
  have HP : Hid (∀ t, t < m → ∃ (x : Nat) (g b2 o2 b3 o3 : Nat), x < 256 ∧ A1 = some ⟨g, 0, none⟩ ∧ A2 = some ⟨b2, o2, none⟩ ∧ A3 = some ⟨b3, o3, none⟩ ∧ w3.cell? ⟨g, t, none⟩ = some (.int .i64 (x : Int)) ∧
      w3.cell? ⟨b2, o2 + t, none⟩ = some (.int .u8 (x : Int)) ∧ w3.cell? ⟨b3, o3 + (m - 1 - t), none⟩ = some (.int .u8 (x : Int))) := by
    intro t ht
    exact places w3 n m t w.heap.size A1 A2 A3 c1 ((HO1.out.below hb2).below hb3) (HO2.out.below hb3) HO3.out ht
  have HB : Hid (Below w.heap.size w w3) := (hb1.trans (hb2.mono hb1.size)).trans (hb3.mono (Nat.le_trans hb1.size hb2.size))
  clear HO1 HO2 HO3 hb1 hb2 hb3 HN HM
  go_wp2
  go_loopw [33] (fun i wr => ∃ t q : Nat, t ≤ m ∧ i = .int .i64 t ∧ wr = w3.drewN q) (fun i _ => m - (intOf i).toNat)
  case atStart => exact ⟨0, 0, Nat.zero_le _, rfl, rfl⟩
  case round =>
    obtain ⟨t, q, ht, rfl, rfl⟩ := hrel
    by_cases hlt : t < m
    · obtain ⟨x, g, b2, o2, b3, o3, hx, rfl, rfl, rfl, hc1, hc2, hc3⟩ := HP.out t hlt
      have hg : ((x : Int) != (x : Int)) = false := by simp
      go_wp2
      go_quiet (fail)
      go_wp2
      go_roundw
      case rel => exact ⟨t + 1, q + nq, by omega, by go_num, rfl⟩
      case measure => simp [intOf]; omega
    · go_wp2_with fail
      refine (awake_calls _).mono ?_
      rintro e w4 ⟨rfl, hb4⟩
      go_wp2
      go_ret
      refine ⟨rfl, ?_⟩
      exact (below_drewN HB.out q).trans (hb4.mono (below_drewN HB.out q).size)

set_option maxRecDepth 100000 in
theorem lifted (os : Os) (started : os.Started) (H : Type) (enc : TypeId × Value → H) :
    ReturnsInHanded {} Try.checked os 3 .any (Rows.octetBytesSpec.pre6 enc Try.prog Try.f3 Rows.octetBytesRow.domain false) (Rows.octetBytesSpec.post enc Try.prog Try.f3 false true false false) := by
  refine returnsInHanded_of_change (C := Try.checked) own started (by kernel_rfl) Try.func3
    (ChangeSpec.witness6 (enc := enc) (C := Try.checked) false ⟨#[], #[.int .u64 0, .int .i64 0], []⟩ 8 (by kernel_rfl) (by kernel_rfl) (by kernel_rfl) (by kernel_rfl)) ?_
  intro W base args ds gs before hval0 hW hcnd _
  have hval : ∀ (j : Nat) t v, Try.f3.params[j]? = some t → args[j]? = some v → Value.okWide Try.prog W .any base t v := hval0
  have hW' := hW
  obtain ⟨p, q, hA0, hV, rfl, hfz, hnd⟩ := hW
  have hA : DataW.TrodAll enc Try.prog W 0 (fun _ => true) true Try.f3.params.toList args.toList ds p := hA0
  rw [Try.params3] at hA hval
  obtain ⟨v0, vs0, d0, ds0, p0, q0, hargs, rfl, rfl, h0, r0⟩ := trodAll_cons hA
  obtain ⟨v1, vs1, d1, ds1, p1, q1, rfl, rfl, rfl, h1, r1⟩ := trodAll_cons r0
  obtain ⟨rfl, rfl, rfl⟩ := trodAll_nil r1
  obtain rfl : args = #[v0, v1] := by cases args; simp_all
  obtain ⟨rfl, rfl⟩ := trodVars_none hV
  obtain ⟨a0, rfl, rfl, rfl, w0⟩ := open_int Try.underlying22 (hval 0 22 v0 rfl rfl) h0
  obtain ⟨a1, rfl, rfl, rfl, w1⟩ := open_int Try.underlying3 (hval 1 3 v1 rfl rfl) h1
  clear hA0 hval0
  refine (walk a0 a1 W w0 w1).mono fun e W' ⟨he, bel⟩ => ?_
  subst he
  exact ⟨_, rfl, _, _, _, [], _, [], hW', trodAll_mk1 (shut_bool Try.underlying4 _), (trodAll_cons_mk (shut_int Try.underlying22 w0) (trodAll_cons_mk (shut_int Try.underlying3 w1) trodAll_mk0)), rfl, bel.frame _, fun h => by cases h⟩

theorem over : Rows.octetBytesRow.holds Try.pinned (OpenSpec.ofChange Rows.octetBytesSpec) :=
  OpenClaim.holds_of_wide 3 Try.f3 rfl rfl rfl rfl rfl rfl rfl ⟨rfl, rfl, rfl, rfl, rfl⟩ rfl rfl rfl rfl rfl (by kernel_rfl) Try.func3 (by kernel_rfl)
    (of_decide_eq_true (by kernel_rfl)) (by unfold Func.isWrapper; first | (rw [if_pos (by decide +kernel)]; kernel_rfl) | (rw [if_neg (by decide +kernel)]; exact ⟨rfl, rfl⟩))
    (fun os started H enc _ => lifted os started H enc)

theorem proved : Rows.OctetBytesSaid := over
end Go.Proofs.Ytgjpfkkonmibfaa.octetBytes
