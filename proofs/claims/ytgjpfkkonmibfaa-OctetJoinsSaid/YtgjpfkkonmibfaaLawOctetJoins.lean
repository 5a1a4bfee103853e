/- Proved: any lists of bytes are joined, in their order, as new memory; where there are more than 40 lists, or one of more than 100 bytes, nothing more than the document's examples is said. -/
import Derived.Test.YtgjpfkkonmibfaaRows
import Derived.Test.YtgjpfkkonmibfaaJoin
import Derived.ProofKit
import Derived.Deep.Matrix
import Derived.OpenShut
import Derived.ShutString
import Derived.ChangeOld
import Derived.Test.YtgjpfkkonmibfaaOpen
namespace Go.Proofs.Ytgjpfkkonmibfaa.octetJoins
open Go.ChangeShapes Go.WideShapes Go.ChangeAt Go.RowKit
open Go.ChangeMaps (open_string shut_string)
set_option linter.unusedVariables false

theorem own : ownKnob Try.prog.godebug = none := by kernel_rfl
theorem laidOut : laidOutB Try.prog = true := by kernel_rfl

theorem own_at {w : World} {base n c : Nat} {A : Option Addr} {l : List UInt8} (h : Own w base A n c l) (hn : 0 < n) : ∃ g, A = some ⟨g, 0, none⟩ ∧ base ≤ g := by
  obtain ⟨hl, h⟩ := h
  obtain ⟨g, cap, hv, hb, hlt⟩ := World.ownsRow.form h hn
  have hA : A = some ⟨g, 0, none⟩ := by injection hv
  exact ⟨g, hA, hb⟩
theorem inc8 (x : Nat) : IntKind.u8.wrap ((x : Int) + 1) = ((UInt8.ofNat (x + 1)).toNat : Int) := by
  rw [IntKind.wrap_u8', ofNat_toNat]; omega
theorem flat_bound (L : List (List UInt8)) (h : ∀ x ∈ L, x.length ≤ 100) : L.flatten.length ≤ 100 * L.length := by
  induction L with
  | nil => simp
  | cons x r ih =>
    have h1 := h x (by simp)
    have h2 := ih (fun y hy => h y (by simp [hy]))
    simp only [List.flatten_cons, List.length_append, List.length_cons]
    omega

set_option maxHeartbeats 1000000 in
theorem walk (A : Option Addr) (n c : Nat) (L : List (List UInt8)) (w : World) (w0 : RdL w A n L ∧ n ≤ c ∧ c ≤ maxLen) :
    Calls Try.prog 9 #[.slice A n c] w (Ret w (.bool true)) := by
  obtain ⟨hr, hnc, hcm⟩ := w0
  unfold maxLen at hcm
  have HL := Lib.hid hr.len
  have HR := Lib.hid hr
  clear hr
  go_enter Try.func9, Try.ntmps9
  go_wp2
  go_loop [3, 13] (fun v i => ∃ (t : Nat) (s : ByteArray), t ≤ n ∧ t ≤ 40 ∧ i = .int .i64 t ∧ v = .string s ∧ s.size ≤ 100 * t ∧ Hid (s = ⟨(L.take t).flatten.toArray⟩ ∧ ∀ x ∈ L.take t, x.length ≤ 100)) (fun _ i => n - (intOf i).toNat)
  case atStart => exact ⟨0, _, Nat.zero_le _, by omega, rfl, rfl, by decide, rfl, by simp⟩
  case round =>
    obtain ⟨t, s, ht, ht40, rfl, rfl, hs, HS⟩ := hrel
    by_cases hlt : t < n
    · obtain ⟨b, off, A', m, c', hl, rfl, hcell, hm, hrd⟩ := HR.out.at_ (k := t) hlt
      have hcv := conv8 w A' m c' _ hrd
      have HRD := Lib.hid hrd.len
      unfold maxLen at hm
      clear hrd
      by_cases h40 : 39 < t
      · go_wp2_with fail
        refine (awake_calls _).mono ?_
        rintro e w4 ⟨rfl, hb4⟩
        go_wp2
        go_ret
        exact ⟨rfl, hb4⟩
      · by_cases h100 : 100 < m
        · go_wp2_with fail
          refine (awake_calls _).mono ?_
          rintro e w4 ⟨rfl, hb4⟩
          go_wp2
          go_ret
          exact ⟨rfl, hb4⟩
        · have hq : s.size + (⟨L[t].toArray⟩ : ByteArray).size ≤ 9223372036854775807 := by
            have : (⟨L[t].toArray⟩ : ByteArray).size = L[t].length := rfl
            rw [this, HRD.out]; omega
          go_wp2
          go_round
          case rel =>
            have hsz : (⟨L[t].toArray⟩ : ByteArray).size = m := HRD.out
            refine ⟨t + 1, s ++ ⟨L[t].toArray⟩, by omega, by omega, by go_num, rfl, ?_, ?_, ?_⟩
            · rw [ByteArray.size_append, hsz]; omega
            · rw [HS.out.1, ByteArray.mk_append_mk, flat_take L t hl]
            · intro x hx
              rw [List.take_succ_eq_append_getElem hl, List.mem_append] at hx
              rcases hx with hx | hx
              · exact HS.out.2 x hx
              · simp at hx; rw [hx, HRD.out]; omega
          case measure => simp [intOf]; omega
    · have e : t = n := by omega
      subst e
      have hLt : L.take t = L := List.take_of_length_le (by rw [HL.out]; omega)
      rw [hLt] at HS
      have hfl : L.flatten.length ≤ 1000000 := by have := flat_bound L HS.out.2; rw [HL.out] at this; omega
      have HS1 := Lib.hid HS.out.1
      clear HS hLt
      go_wp2_with fail
      refine (join_calls A t c L _ (by omega) hfl HR.out).mono ?_
      rintro e w1 ⟨A1, n1, c1, rfl, ho1, hb1⟩
      have hcv := conv8 w1 A1 n1 c1 _ ho1.rd
      rw [← HS1.out] at hcv
      have hn1 : n1 ≤ 1000000 := by have := ho1.len; omega
      have HO := Lib.hid ho1
      clear ho1
      go_wp2
      go_loopw [39] (fun i wr => ∃ (k : Nat) (l : List UInt8), k ≤ n1 ∧ i = .int .i64 k ∧ Own wr w.heap.size A1 n1 c1 l ∧ Below w.heap.size w wr) (fun i _ => n1 - (intOf i).toNat)
      case atStart => exact ⟨0, _, Nat.zero_le _, rfl, HO.out, hb1⟩
      case round =>
        obtain ⟨k, l, hk, rfl, hown, hbel⟩ := hrel
        clear hcv
        by_cases hlt2 : k < n1
        · obtain ⟨g, rfl, hg⟩ := own_at hown (by omega)
          have hkl : k < l.length := by rw [hown.len]; exact hlt2
          have hcell := hown.cell hkl
          have hfree := hown.free k
          obtain ⟨x, hx⟩ : ∃ x : Nat, l[k].toNat = x := ⟨_, rfl⟩
          rw [hx] at hcell
          have HI := Lib.hid (inc8 x)
          have HO2 := Lib.hid hown
          clear hown hx
          go_wp2
          go_roundw
          case rel =>
            have h3 := HO2.out.set k (UInt8.ofNat (x + 1))
            rw [← HI.out] at h3
            exact ⟨k + 1, _, by omega, by go_num, h3, hbel.setCell hg _⟩
          case measure => simp [intOf]; omega
        · clear hown
          go_wp2
          go_loop [8, 51] (fun v i => ∃ (q : Nat) (r : ByteArray), q ≤ t ∧ i = .int .i64 q ∧ v = .string r ∧ r.size ≤ 1000000 ∧ Hid (r = ⟨(L.take q).flatten.toArray⟩)) (fun _ i => t - (intOf i).toNat)
          case atStart => exact ⟨0, _, Nat.zero_le _, rfl, rfl, by decide, rfl⟩
          case round =>
            obtain ⟨q, r, hq, rfl, rfl, hr, HQ⟩ := hrel
            by_cases hlt3 : q < t
            · obtain ⟨b, off, A', m, c', hl, rfl, hcell, hm, hrd⟩ := (HR.out.below hbel).at_ (k := q) hlt3
              have hcv := conv8 wr A' m c' _ hrd
              have hqm : r.size + m ≤ 1000000 := by
                have h1 := flat_le L (q + 1)
                rw [flat_take L q hl, List.length_append, hrd.len] at h1
                have h2 : r.size = (L.take q).flatten.length := by rw [HQ.out]; rfl
                omega
              have HRD := Lib.hid hrd.len
              clear hrd hm
              have hss : r.size + (⟨L[q].toArray⟩ : ByteArray).size ≤ 9223372036854775807 := by
                have : (⟨L[q].toArray⟩ : ByteArray).size = L[q].length := rfl
                rw [this, HRD.out]; omega
              go_wp2
              go_round
              case rel =>
                have hsz : (⟨L[q].toArray⟩ : ByteArray).size = m := HRD.out
                refine ⟨q + 1, r ++ ⟨L[q].toArray⟩, by omega, by go_num, rfl, ?_, ?_⟩
                · rw [ByteArray.size_append, hsz]; omega
                · show _ = _
                  rw [HQ.out, ByteArray.mk_append_mk, flat_take L q hl]
              case measure => simp [intOf]; omega
            · have e : q = t := by omega
              subst e
              have hrs : r = s := by rw [HQ.out, HS1.out, List.take_of_length_le (by rw [HL.out]; omega)]
              subst hrs
              go_wp2_with fail
              refine (awake_calls _).mono ?_
              rintro e w4 ⟨rfl, hb4⟩
              go_wp2
              go_ret
              exact ⟨rfl, hbel.trans (hb4.mono hbel.size)⟩

set_option maxRecDepth 100000 in
theorem lifted (os : Os) (started : os.Started) (H : Type) (enc : TypeId × Value → H) :
    ReturnsInHanded {} Try.checked os 9 .any (Rows.octetJoinsSpec.pre6 enc Try.prog Try.f9 Rows.octetJoinsRow.domain false) (Rows.octetJoinsSpec.post enc Try.prog Try.f9 false true false false) := by
  refine returnsInHanded_of_change (C := Try.checked) own started (by kernel_rfl) Try.func9
    (ChangeSpec.witness6 (enc := enc) (C := Try.checked) false ⟨#[], #[.slice none 0 0], []⟩ 8 (by kernel_rfl) (by kernel_rfl) (by kernel_rfl) (by kernel_rfl)) ?_
  intro W base args ds gs before hval0 hW hcnd _
  have hval : ∀ (j : Nat) t v, Try.f9.params[j]? = some t → args[j]? = some v → Value.okWide Try.prog W .any base t v := hval0
  have hW' := hW
  obtain ⟨p, q, hA0, hV, rfl, hfz, hnd⟩ := hW
  have hA : DataW.TrodAll enc Try.prog W 0 (fun _ => true) true Try.f9.params.toList args.toList ds p := hA0
  rw [Try.params9] at hA hval
  obtain ⟨v0, vs0, d0, ds0, p0, q0, hargs, rfl, rfl, h0, r0⟩ := trodAll_cons hA
  obtain ⟨rfl, rfl, rfl⟩ := trodAll_nil r0
  obtain rfl : args = #[v0] := by cases args; simp_all
  obtain ⟨rfl, rfl⟩ := trodVars_none hV
  obtain ⟨a0, len0, cap0, rfl⟩ := okWide_slice Try.underlying42 (hval 0 42 v0 rfl rfl)
  have k0 := h0
  have lt0 : ∀ x ∈ p0, x.block < W.heap.size := by obtain ⟨m, hm⟩ := k0; exact DataW.trod_lt m _ _ _ hm
  obtain ⟨l0, w0⟩ : ∃ l, RdL W a0 len0 l ∧ len0 ≤ cap0 ∧ cap0 ≤ maxLen := by
    obtain ⟨fuel, hf⟩ := h0
    rcases Go.Deep.open_int_rows Try.underlying42 Try.underlying26 Try.underlying5 (by kernel_rfl) (by kernel_rfl) hf with ⟨hcs, _⟩ | ⟨x, l, c, AA, LL, CC, ZZ, hcs, _, hl, hm, _, hrow⟩
    · simp [Value.cells] at hcs
      obtain ⟨rfl, rfl, rfl⟩ := hcs
      exact ⟨[], ⟨rfl, fun h => absurd h (by omega)⟩, by omega, by unfold maxLen; omega⟩
    · simp [Value.cells] at hcs
      obtain ⟨rfl, rfl, rfl⟩ := hcs
      obtain ⟨l, hr⟩ := rdl_rows hl hrow
      exact ⟨l, hr, hl, hm⟩
  clear hA0 hval0
  refine (walk a0 len0 cap0 l0 W w0).mono fun e W' ⟨he, bel⟩ => ?_
  subst he
  exact ⟨_, rfl, _, _, _, [], _, [], hW', trodAll_mk1 (shut_bool Try.underlying4 _), (trodAll_cons_mk (Below.trod laidOut (by kernel_rfl) (of_decide_eq_true (by kernel_rfl)) k0 bel lt0) trodAll_mk0), rfl, bel.frame _, fun h => by cases h⟩

theorem over : Rows.octetJoinsRow.holds Try.pinned (OpenSpec.ofChange Rows.octetJoinsSpec) :=
  OpenClaim.holds_of_wide 9 Try.f9 rfl rfl rfl rfl rfl rfl rfl ⟨rfl, rfl, rfl, rfl, rfl⟩ rfl rfl rfl rfl rfl (by kernel_rfl) Try.func9 (by kernel_rfl)
    (of_decide_eq_true (by kernel_rfl)) (by unfold Func.isWrapper; first | (rw [if_pos (by decide +kernel)]; kernel_rfl) | (rw [if_neg (by decide +kernel)]; exact ⟨rfl, rfl⟩))
    (fun os started H enc _ => lifted os started H enc)

theorem proved : Rows.OctetJoinsSaid := over
end Go.Proofs.Ytgjpfkkonmibfaa.octetJoins
