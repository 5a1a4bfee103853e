/- Proved: any text is just one bytes' digits, or it is refused; for texts longer than 200 signs nothing more than the document's examples is said. -/
import Derived.Test.YtgjpfkkonmibfaaRows
import Derived.Test.YtgjpfkkonmibfaaHexB
import Derived.Test.YtgjpfkkonmibfaaHexC
import Derived.ProofKit
import Derived.OpenShut
import Derived.ShutString
import Derived.ChangeOld
import Derived.Test.YtgjpfkkonmibfaaOpen
namespace Go.Proofs.Ytgjpfkkonmibfaa.octetReads
open Go.ChangeShapes Go.WideShapes Go.ChangeAt Go.RowKit
open Go.ChangeMaps (open_string shut_string)
set_option linter.unusedVariables false

theorem own : ownKnob Try.prog.godebug = none := by kernel_rfl
theorem laidOut : laidOutB Try.prog = true := by kernel_rfl

/-- Whether a text is of even length and its first t signs are digits. -/
def so (l : List UInt8) (t : Nat) : Bool := decide (l.length % 2 = 0) && (l.take t).all dok
theorem so_succ (l : List UInt8) (t : Nat) (h : t < l.length) : so l (t + 1) = (so l t && dok l[t]) := by
  unfold so
  rw [List.take_succ_eq_append_getElem h, List.all_append]
  simp [Bool.and_assoc]
theorem so_all (l : List UInt8) (hg : ¬ good l) : so l l.length = false := by
  cases h : so l l.length
  · rfl
  · exfalso
    apply hg
    unfold so at h
    simp at h
    exact ⟨h.1, h.2⟩

set_option maxHeartbeats 1000000 in
theorem walk (s : ByteArray) (w : World) (w0 : s.size ≤ maxLen) :
    Calls Try.prog 8 #[.string s] w (Ret w (.bool true)) := by
  unfold maxLen at w0
  by_cases h200 : 200 < s.size
  · go_enter Try.func8, Try.ntmps8
    go_wp2_with fail
    refine (awake_calls _).mono ?_
    rintro e w4 ⟨rfl, hb4⟩
    go_wp2
    go_ret
    exact ⟨rfl, hb4⟩
  · have hd : decide (200 < (s.size : Int)) = false := by simp; omega
    obtain ⟨l, hl⟩ : ∃ l, s.data.toList = l := ⟨_, rfl⟩
    have hsz : l.length = s.size := by rw [← hl]; rfl
    have hget : ∀ k (h : k < s.size) (h2 : k < l.length), s[k] = l[k] := by intro k h h2; subst hl; rfl
    have hs : s = ⟨l.toArray⟩ := by rw [← hl]
    by_cases hg : good l
    · have HG := Lib.hid hg
      have HSZ := Lib.hid hsz
      have hn : l.length ≤ 200 := by omega
      clear hg hsz hget hl
      subst hs
      go_enter Try.func8, Try.ntmps8
      go_wp2_with fail
      refine (unhex_good _ l rfl HG.out (by omega) _).mono ?_
      rintro e w2 ⟨A2, n2, c2, rfl, ho2, hb2⟩
      have hu : n2 ≤ 1000000 := by have h1 := ho2.len; rw [unhL_len _ l (Nat.le_refl _)] at h1; omega
      have HO2 := Lib.hid ho2
      clear ho2
      go_wp2_with fail
      refine (rhex_calls A2 n2 c2 _ _ hu HO2.out.rd).mono ?_
      rintro e w3 ⟨rfl, hb3⟩
      rw [hexL_unhL _ l (Nat.le_refl _) HG.out]
      go_wp2_with fail
      refine (awake_calls _).mono ?_
      rintro e w4 ⟨rfl, hb4⟩
      go_wp2
      go_ret
      have h13 := hb2.trans (hb3.mono hb2.size)
      exact ⟨rfl, h13.trans (hb4.mono h13.size)⟩
    · obtain ⟨r0, hr0⟩ : ∃ r : Bool, ((s.size : Int) % 2 == 0) = r := ⟨_, rfl⟩
      have HR0 : Hid (r0 = so l 0) := by
        show r0 = so l 0
        rw [← hr0]
        unfold so
        rw [hsz, Bool.eq_iff_iff]
        simp
        omega
      have HL := Lib.hid hl
      have HB := Lib.hid hg
      have HGT := Lib.hid hget
      have HSZ := Lib.hid hsz
      have hn : l.length ≤ 200 := by omega
      clear hg hsz hget hl hs
      go_enter Try.func8, Try.ntmps8
      go_wp2_with fail
      refine (unhex_bad _ l HL.out HB.out (by omega) _).mono ?_
      rintro e w2 ⟨rfl, hb2⟩
      go_wp2
      go_loop [5, 6] (fun v i => ∃ (t : Nat) (r : Bool), t ≤ s.size ∧ i = .int .i64 t ∧ v = .bool r ∧ Hid (r = so l t)) (fun _ i => s.size - (intOf i).toNat)
      case atStart => exact ⟨0, r0, Nat.zero_le _, rfl, rfl, HR0⟩
      case round =>
        obtain ⟨t, r, ht, rfl, rfl, HR⟩ := hrel
        by_cases hlt : t < s.size
        · have h2 : t < l.length := by rw [HSZ.out]; exact hlt
          obtain ⟨c, hc⟩ : ∃ c : UInt8, s[t] = c := ⟨_, rfl⟩
          have hcl : l[t] = c := by rw [← hc]; exact (HGT.out t hlt h2).symm
          have hc256 := c.toNat_lt
          have HS1 : Hid (so l (t + 1) = (so l t && dok c)) := by show _ = _; rw [so_succ l t h2, hcl]
          have HDK : Hid (dok c = decide (48 ≤ c.toNat ∧ c.toNat ≤ 57 ∨ 97 ≤ c.toNat ∧ c.toNat ≤ 102)) := rfl
          clear hcl
          cases r
          · go_wp2
            go_round
            case rel =>
              refine ⟨t + 1, false, by omega, by go_num, rfl, ?_⟩
              show false = so l (t + 1)
              rw [HS1.out, ← HR.out]
              rfl
            case measure => simp [intOf]; omega
          · rcases (show c.toNat < 48 ∨ (48 ≤ c.toNat ∧ c.toNat ≤ 57) ∨ (57 < c.toNat ∧ c.toNat < 97) ∨ (97 ≤ c.toNat ∧ c.toNat ≤ 102) ∨ 102 < c.toNat from by omega) with h1 | ⟨h1, h3⟩ | ⟨h1, h3⟩ | ⟨h1, h3⟩ | h1
            all_goals
              go_wp2
              go_round
              case rel =>
                refine ⟨t + 1, dok c, by omega, by go_num, ?_, ?_⟩
                · rw [HDK.out]
                  congr 1
                  rw [Bool.eq_iff_iff]
                  first | (simp; done) | (simp; omega)
                · show dok c = so l (t + 1)
                  rw [HS1.out, ← HR.out]
                  rfl
              case measure => simp [intOf]; omega
        · have e : t = s.size := by omega
          subst e
          have hrf : r = false := by rw [HR.out, ← HSZ.out]; exact so_all l HB.out
          subst hrf
          go_wp2_with fail
          refine (awake_calls _).mono ?_
          rintro e w4 ⟨rfl, hb4⟩
          go_wp2
          go_ret
          exact ⟨rfl, hb2.trans (hb4.mono hb2.size)⟩

set_option maxRecDepth 100000 in
theorem lifted (os : Os) (started : os.Started) (H : Type) (enc : TypeId × Value → H) :
    ReturnsInHanded {} Try.checked os 8 .any (Rows.octetReadsSpec.pre6 enc Try.prog Try.f8 Rows.octetReadsRow.domain false) (Rows.octetReadsSpec.post enc Try.prog Try.f8 false true false false) := by
  refine returnsInHanded_of_change (C := Try.checked) own started (by kernel_rfl) Try.func8
    (ChangeSpec.witness6 (enc := enc) (C := Try.checked) false ⟨#[], #[.string ByteArray.empty], []⟩ 8 (by kernel_rfl) (by kernel_rfl) (by kernel_rfl) (by kernel_rfl)) ?_
  intro W base args ds gs before hval0 hW hcnd _
  have hval : ∀ (j : Nat) t v, Try.f8.params[j]? = some t → args[j]? = some v → Value.okWide Try.prog W .any base t v := hval0
  have hW' := hW
  obtain ⟨p, q, hA0, hV, rfl, hfz, hnd⟩ := hW
  have hA : DataW.TrodAll enc Try.prog W 0 (fun _ => true) true Try.f8.params.toList args.toList ds p := hA0
  rw [Try.params8] at hA hval
  obtain ⟨v0, vs0, d0, ds0, p0, q0, hargs, rfl, rfl, h0, r0⟩ := trodAll_cons hA
  obtain ⟨rfl, rfl, rfl⟩ := trodAll_nil r0
  obtain rfl : args = #[v0] := by cases args; simp_all
  obtain ⟨rfl, rfl⟩ := trodVars_none hV
  obtain ⟨a0, rfl, rfl, rfl, w0⟩ := open_string Try.underlying9 (hval 0 9 v0 rfl rfl) h0
  clear hA0 hval0
  refine (walk a0 W w0).mono fun e W' ⟨he, bel⟩ => ?_
  subst he
  exact ⟨_, rfl, _, _, _, [], _, [], hW', trodAll_mk1 (shut_bool Try.underlying4 _), (trodAll_cons_mk (shut_string Try.underlying9 w0) trodAll_mk0), rfl, bel.frame _, fun h => by cases h⟩

theorem over : Rows.octetReadsRow.holds Try.pinned (OpenSpec.ofChange Rows.octetReadsSpec) :=
  OpenClaim.holds_of_wide 8 Try.f8 rfl rfl rfl rfl rfl rfl rfl ⟨rfl, rfl, rfl, rfl, rfl⟩ rfl rfl rfl rfl rfl (by kernel_rfl) Try.func8 (by kernel_rfl)
    (of_decide_eq_true (by kernel_rfl)) (by unfold Func.isWrapper; first | (rw [if_pos (by decide +kernel)]; kernel_rfl) | (rw [if_neg (by decide +kernel)]; exact ⟨rfl, rfl⟩))
    (fun os started H enc _ => lifted os started H enc)

theorem proved : Rows.OctetReadsSaid := over
end Go.Proofs.Ytgjpfkkonmibfaa.octetReads
