/- Proved: the number of any bytes, in either order, is that of the first eight of them; for byte slices longer than 100 nothing more than the document's examples is said. -/
import Derived.Test.YtgjpfkkonmibfaaRows
import Derived.Test.YtgjpfkkonmibfaaOctF
import Derived.Deep.RegionWith
import Derived.ProofKit
import Derived.OpenShut
import Derived.ShutString
import Derived.ChangeOld
import Derived.Test.YtgjpfkkonmibfaaOpen
namespace Go.Proofs.Ytgjpfkkonmibfaa.octetNums
open Go.ChangeShapes Go.WideShapes Go.ChangeAt Go.RowKit
open Go.ChangeMaps (open_string shut_string)
set_option linter.unusedVariables false

theorem own : ownKnob Try.prog.godebug = none := by kernel_rfl
theorem laidOut : laidOutB Try.prog = true := by kernel_rfl

/-- A slice whose first eight bytes are the number v, the lowest first. -/
def Val (w : World) (A : Option Addr) (n : Nat) (v : Int) : Prop := n ≤ 1000000 ∧ ∃ l, Rd w A n l ∧ v = (numL (l.take 8) : Int)
theorem value_v (A : Option Addr) (n c : Nat) (v : Int) (w : World) (h : Val w A n v) : Calls Try.prog 16 #[.slice A n c] w fun e w' => e = .returned (.int .u64 v) ∧ w = w' := by
  obtain ⟨hn, l, hr, rfl⟩ := h
  exact value_calls A n c l w (by omega) hr

/-- What the law's calls need of the bytes: their first k, where k is 8 or all. -/
structure Facts (w : World) (A : Option Addr) (n c k : Nat) (v1 v2 : Int) : Prop where
  num : ∀ W, Below w.heap.size w W → Calls Try.prog 15 #[.slice A n c] W fun e w' => e = .returned (.int .u64 v1) ∧ W = w'
  val : ∀ W, Below w.heap.size w W → Calls Try.prog 16 #[.slice A k c] W fun e w' => e = .returned (.int .u64 v1) ∧ W = w'
  big : ∀ W, Below w.heap.size w W → Calls Try.prog 17 #[.slice A n c] W fun e w' => e = .returned (.int .u64 v2) ∧ W = w'
  turn : ∀ W, Below w.heap.size w W → Calls Try.prog 18 #[.slice A k c] W fun e w' => ∃ A' n' c', e = .returned (.slice A' n' c') ∧ Val w' A' n' v2 ∧ Below w.heap.size w w'

theorem facts (w : World) (A : Option Addr) (n c k : Nat) (l : List UInt8) (hr : Rd w A n l) (hn : n ≤ 100) (hk : k = min n 8) : Facts w A n c k (numL (l.take 8)) (numL (l.take 8).reverse) := by
  have hl := hr.len
  have ht : l.take k = l.take 8 := by
    rcases Nat.lt_or_ge n 8 with h | h
    · rw [List.take_of_length_le (by omega), List.take_of_length_le (by omega)]
    · rw [hk, Nat.min_eq_right h]
  have h8 : (l.take 8).length ≤ 8 := by rw [List.length_take]; omega
  refine ⟨fun W hb => num_calls A n c l W (hr.below hb), fun W hb => ?_, fun W hb => big_calls A n c l W (hr.below hb), fun W hb => ?_⟩
  · have h := value_calls A k c (l.take k) W (by omega) ((hr.below hb).take (by omega))
    rw [ht, List.take_of_length_le h8] at h
    exact h
  · have h := turned_calls A k c (l.take k) W (by omega) ((hr.below hb).take (by omega))
    rw [ht] at h
    refine h.mono fun e w' ⟨A', n', c', he, ho, hbel⟩ => ⟨A', n', c', he, ⟨?_, _, ho.rd, ?_⟩, hb.trans (hbel.mono hb.size)⟩
    · have h1 := ho.len; have h2 : (l.take 8).reverse.length = (l.take 8).length := List.length_reverse; omega
    · have e2 : ((l.take 8).reverse).take 8 = (l.take 8).reverse := List.take_of_length_le (by rw [List.length_reverse]; exact h8)
      rw [e2]

set_option maxHeartbeats 1000000 in
theorem walk (A : Option Addr) (n c : Nat) (l : List UInt8) (w : World) (w0 : Rd w A n l ∧ n ≤ c ∧ c ≤ maxLen) :
    Calls Try.prog 4 #[.slice A n c] w (Ret w (.bool true)) := by
  obtain ⟨hr, hnc, hcm⟩ := w0
  unfold maxLen at hcm
  have HR := Lib.hid hr
  clear hr
  by_cases h100 : 100 < n
  · go_enter Try.func4, Try.ntmps4
    go_wp2_with fail
    refine (awake_calls _).mono ?_
    rintro e w4 ⟨rfl, hb4⟩
    go_wp2
    go_ret
    exact ⟨rfl, hb4⟩
  · have hd : decide (100 < (n : Int)) = false := by simp; omega
    by_cases h8 : n ≤ 8
    · obtain ⟨v1, v2, HF⟩ : ∃ v1 v2 : Int, Hid (Facts w A n c n v1 v2) := ⟨_, _, facts w A n c n l HR.out (by omega) (by omega)⟩
      go_enter Try.func4, Try.ntmps4
      go_wp2
      have hq : ((v1 : Int) == v1) = true := by simp
      have hq2 : ((v2 : Int) == v2) = true := by simp
      go_region_with (first
        | (go_at_call 15; refine (HF.out.num _ ?_).mono ?_; exact (Below.refl _ _).drew; rintro e w1 ⟨rfl, rfl⟩)
        | (go_at_call 17; refine (HF.out.big _ ?_).mono ?_; exact (Below.refl _ _).drew; rintro e w1 ⟨rfl, rfl⟩)
        | (go_at_call 18; refine (HF.out.turn _ ?_).mono ?_; exact (Below.refl _ _).drew; rintro e wT ⟨AT, nT, cT, rfl, hvT, hbT⟩)
        | (go_at_call_of 16 AT; refine (value_v AT nT cT v2 _ ?_).mono ?_; exact hvT; rintro e w1 ⟨rfl, rfl⟩)
        | (go_at_call_of 16 A; refine (HF.out.val _ ?_).mono ?_; exact (Below.refl _ _).drew; rintro e w1 ⟨rfl, rfl⟩)
        | (go_at_call 14; refine (awake_calls _).mono ?_; rintro e wA ⟨rfl, hbA⟩))
      all_goals go_wp2
      all_goals go_ret
      all_goals exact ⟨rfl, hbT.trans (hbA.mono hbT.size)⟩
    · obtain ⟨v1, v2, HF⟩ : ∃ v1 v2 : Int, Hid (Facts w A n c 8 v1 v2) := ⟨_, _, facts w A n c 8 l HR.out (by omega) (by omega)⟩
      go_enter Try.func4, Try.ntmps4
      go_wp2
      have hq : ((v1 : Int) == v1) = true := by simp
      have hq2 : ((v2 : Int) == v2) = true := by simp
      go_region_with (first
        | (go_at_call 15; refine (HF.out.num _ ?_).mono ?_; exact (Below.refl _ _).drew; rintro e w1 ⟨rfl, rfl⟩)
        | (go_at_call 17; refine (HF.out.big _ ?_).mono ?_; exact (Below.refl _ _).drew; rintro e w1 ⟨rfl, rfl⟩)
        | (go_at_call 18; refine (HF.out.turn _ ?_).mono ?_; exact (Below.refl _ _).drew; rintro e wT ⟨AT, nT, cT, rfl, hvT, hbT⟩)
        | (go_at_call_of 16 AT; refine (value_v AT nT cT v2 _ ?_).mono ?_; exact hvT; rintro e w1 ⟨rfl, rfl⟩)
        | (go_at_call_of 16 A; refine (HF.out.val _ ?_).mono ?_; exact (Below.refl _ _).drew; rintro e w1 ⟨rfl, rfl⟩)
        | (go_at_call 14; refine (awake_calls _).mono ?_; rintro e wA ⟨rfl, hbA⟩))
      all_goals go_wp2
      all_goals go_ret
      all_goals exact ⟨rfl, hbT.trans (hbA.mono hbT.size)⟩

set_option maxRecDepth 100000 in
theorem lifted (os : Os) (started : os.Started) (H : Type) (enc : TypeId × Value → H) :
    ReturnsInHanded {} Try.checked os 4 .any (Rows.octetNumsSpec.pre6 enc Try.prog Try.f4 Rows.octetNumsRow.domain false) (Rows.octetNumsSpec.post enc Try.prog Try.f4 false true false false) := by
  refine returnsInHanded_of_change (C := Try.checked) own started (by kernel_rfl) Try.func4
    (ChangeSpec.witness6 (enc := enc) (C := Try.checked) false ⟨#[], #[.slice none 0 0], []⟩ 8 (by kernel_rfl) (by kernel_rfl) (by kernel_rfl) (by kernel_rfl)) ?_
  intro W base args ds gs before hval0 hW hcnd _
  have hval : ∀ (j : Nat) t v, Try.f4.params[j]? = some t → args[j]? = some v → Value.okWide Try.prog W .any base t v := hval0
  have hW' := hW
  obtain ⟨p, q, hA0, hV, rfl, hfz, hnd⟩ := hW
  have hA : DataW.TrodAll enc Try.prog W 0 (fun _ => true) true Try.f4.params.toList args.toList ds p := hA0
  rw [Try.params4] at hA hval
  obtain ⟨v0, vs0, d0, ds0, p0, q0, hargs, rfl, rfl, h0, r0⟩ := trodAll_cons hA
  obtain ⟨rfl, rfl, rfl⟩ := trodAll_nil r0
  obtain rfl : args = #[v0] := by cases args; simp_all
  obtain ⟨rfl, rfl⟩ := trodVars_none hV
  obtain ⟨a0, len0, cap0, rfl⟩ := okWide_slice Try.underlying26 (hval 0 26 v0 rfl rfl)
  have k0 := h0
  have lt0 : ∀ x ∈ p0, x.block < W.heap.size := by obtain ⟨m, hm⟩ := k0; exact DataW.trod_lt m _ _ _ hm
  obtain ⟨l0, w0⟩ : ∃ l, Rd W a0 len0 l ∧ len0 ≤ cap0 ∧ cap0 ≤ maxLen := by
    obtain ⟨fuel, hf⟩ := h0
    rcases open_ints Try.underlying26 Try.underlying5 (by kernel_rfl) hf with ⟨hcs, _⟩ | ⟨x, l, c, zs, hcs, _, hl, hm, hz, _, hcell, hwz⟩
    · simp [Value.cells] at hcs
      obtain ⟨rfl, rfl, rfl⟩ := hcs
      exact ⟨[], Rd.nil _ _, by omega, by unfold maxLen; omega⟩
    · simp [Value.cells] at hcs
      obtain ⟨rfl, rfl, rfl⟩ := hcs
      obtain ⟨l, hr⟩ := rd_ints hcell hl (by simpa using hz) hwz
      exact ⟨l, hr, hl, hm⟩
  clear hA0 hval0
  refine (walk a0 len0 cap0 l0 W w0).mono fun e W' ⟨he, bel⟩ => ?_
  subst he
  exact ⟨_, rfl, _, _, _, [], _, [], hW', trodAll_mk1 (shut_bool Try.underlying4 _), (trodAll_cons_mk (Below.trod laidOut (by kernel_rfl) (of_decide_eq_true (by kernel_rfl)) k0 bel lt0) trodAll_mk0), rfl, bel.frame _, fun h => by cases h⟩

theorem over : Rows.octetNumsRow.holds Try.pinned (OpenSpec.ofChange Rows.octetNumsSpec) :=
  OpenClaim.holds_of_wide 4 Try.f4 rfl rfl rfl rfl rfl rfl rfl ⟨rfl, rfl, rfl, rfl, rfl⟩ rfl rfl rfl rfl rfl (by kernel_rfl) Try.func4 (by kernel_rfl)
    (of_decide_eq_true (by kernel_rfl)) (by unfold Func.isWrapper; first | (rw [if_pos (by decide +kernel)]; kernel_rfl) | (rw [if_neg (by decide +kernel)]; exact ⟨rfl, rfl⟩))
    (fun os started H enc _ => lifted os started H enc)

theorem proved : Rows.OctetNumsSaid := over
end Go.Proofs.Ytgjpfkkonmibfaa.octetNums
