/- Contract of octet.Unhex: the bytes whose digits a text is, or the error that it is nobody's. -/
import Derived.Test.YtgjpfkkonmibfaaHexA
namespace Go.Proofs.Ytgjpfkkonmibfaa
open Go.RowKit

/-- What Unhex of the text l ends in. -/
def UnhexEnds (w : World) (l : List UInt8) (e : Ending) (w' : World) : Prop :=
  (good l ∧ ∃ A n c, e = .returned (.tuple #[.slice A n c, .int .i64 0]) ∧ Own w' w.heap.size A n c (unhL l) ∧ Below w.heap.size w w') ∨
  (¬ good l ∧ e = .returned (.tuple #[.slice none 0 0, .int .i64 3]) ∧ Below w.heap.size w w')

def upart (u : List UInt8) (m t : Nat) : List UInt8 := u.take t ++ List.replicate (m - t) 0
theorem upart_len (u : List UInt8) (m t : Nat) (hu : u.length = m) (h : t ≤ m) : (upart u m t).length = m := by simp [upart]; omega
theorem upart_set (u : List UInt8) (m t : Nat) (hu : u.length = m) (h : t < m) : (upart u m t).set t u[t] = upart u m (t + 1) := by
  unfold upart
  have hl : (u.take t).length = t := by rw [List.length_take]; omega
  rw [List.set_append_right _ _ (by omega), hl, Nat.sub_self, show m - t = (m - (t + 1)) + 1 from by omega, List.replicate_succ, List.set_cons_zero]
  rw [List.take_succ_eq_append_getElem (show t < u.length by omega), List.append_assoc]
  rfl

theorem join8 (a b : Nat) (ha : a < 16) (hb : b < 16) : bits .or .u8 ((a : Int) * 16) (b : Int) = ((UInt8.ofNat (a * 16 + b)).toNat : Int) := by
  have e : (a : Int) * 16 = ((a * 16 : Nat) : Int) := by omega
  rw [e, u8_or_nat _ _ (by omega) (by omega), nat_join 4 (a * 16) b (by show a * 16 % 16 = 0; exact Nat.mul_mod_left _ _) (by show b < 16; exact hb), ofNat_toNat, Nat.mod_eq_of_lt (by omega)]

set_option maxHeartbeats 1000000 in
theorem unhex_calls (s : ByteArray) (w : World) (hs : s.size ≤ 1000000) :
    Calls Try.prog 24 #[.string s] w (UnhexEnds w s.data.toList) := by
  obtain ⟨l, hl⟩ : ∃ l, l = s.data.toList := ⟨_, rfl⟩
  have hsz : l.length = s.size := by rw [hl]; rfl
  have hget : ∀ k (h : k < s.size) (h2 : k < l.length), s[k] = l[k] := by intro k h h2; subst hl; rfl
  rw [← hl]
  by_cases hodd : s.size % 2 = 0
  · obtain ⟨m, hm⟩ : ∃ m, s.size = 2 * m := ⟨s.size / 2, by omega⟩
    have hmod : ((s.size : Int) % 2 != 0) = false := by simp; omega
    have hdiv : (s.size : Int) / 2 = (m : Int) := by omega
    have hu : (unhL l).length = m := by rw [unhL_len _ l (Nat.le_refl _)]; omega
    have hm2 : 2 * m ≤ s.size := by omega
    have HM := Lib.hid hm
    have HU := Lib.hid hu
    have HSZ := Lib.hid hsz
    have HG := Lib.hid hget
    clear hm hu hsz hget hl
    have hmk := fun W => run_mk8 m (by omega) W
    go_enter Try.func24, Try.ntmps24
    go_wp2
    clear hmk
    go_loopw [20] (fun i wr => ∃ t : Nat, t ≤ m ∧ i = .int .i64 t ∧ Own wr w.heap.size (some ⟨w.heap.size, 0, none⟩) m m (upart (unhL l) m t) ∧ Below w.heap.size w wr ∧ Hid (∀ j (h : j < l.length), j < 2 * t → dok l[j] = true)) (fun i _ => m - (intOf i).toNat)
    case atStart =>
      refine ⟨0, Nat.zero_le _, rfl, ?_, (Below.refl _ _).alloc (Nat.le_refl _) _, fun j _ h => absurd h (by omega)⟩
      have := Own.made w m (by unfold maxLen; omega)
      simpa [upart] using this
    case round =>
      obtain ⟨t, ht, rfl, hown, hbel, HD⟩ := hrel
      by_cases hlt : t < m
      · have h1 : 2 * t < s.size := by omega
        have h2 : 2 * t + 1 < s.size := by omega
        have hl1 : 2 * t < l.length := by rw [HSZ.out]; exact h1
        have hl2 : 2 * t + 1 < l.length := by rw [HSZ.out]; exact h2
        have hc : t < (upart (unhL l) m t).length := by rw [upart_len _ m t HU.out ht]; exact hlt
        have hcell := hown.cell hc
        have hfree := hown.free t
        have HO := Lib.hid hown
        clear hown
        obtain ⟨a, ha⟩ : ∃ a : UInt8, s[2 * t] = a := ⟨_, rfl⟩
        obtain ⟨b, hb⟩ : ∃ b : UInt8, s[2 * t + 1] = b := ⟨_, rfl⟩
        have HA : Hid (l[2 * t] = a) := by show _ = _; rw [← ha]; exact (HG.out _ h1 hl1).symm
        have HB : Hid (l[2 * t + 1] = b) := by show _ = _; rw [← hb]; exact (HG.out _ h2 hl2).symm
        by_cases hdd : dok a = true ∧ dok b = true
        · obtain ⟨hda, hdb⟩ := hdd
          have hva := dv_lt a hda
          have hvb := dv_lt b hdb
          have HDA := Lib.hid hda
          have HDB := Lib.hid hdb
          clear hda hdb
          go_wp2_with fail
          refine (digit_ok a _ rfl HDA.out _).mono ?_
          rintro e w1 ⟨rfl, rfl⟩
          go_wp2_with fail
          refine (digit_ok b _ rfl HDB.out _).mono ?_
          rintro e w1 ⟨rfl, rfl⟩
          have HJ := Lib.hid (join8 (dv a) (dv b) hva hvb)
          go_wp2
          go_roundw
          case rel =>
            have hu := HU.out
            have hx : (unhL l)[t]'(by omega) = UInt8.ofNat (dv a * 16 + dv b) := by
              rw [unhL_get _ l t hl2 (by omega) (Nat.le_refl _), HA.out, HB.out]
            have h3 := HO.out.set t (unhL l)[t]
            rw [upart_set _ m t hu hlt, hx, ← HJ.out] at h3
            refine ⟨t + 1, by omega, by go_num, h3, hbel.setCell (Nat.le_refl _) _, fun j hj hj2 => ?_⟩
            rcases (show j < 2 * t ∨ j = 2 * t ∨ j = 2 * t + 1 from by omega) with h | rfl | rfl
            · exact HD.out j hj h
            · rw [HA.out]; exact HDA.out
            · rw [HB.out]; exact HDB.out
          case measure => simp [intOf]; omega
        · have HN : Hid (¬ good l) := fun hg => hdd ⟨by rw [← HA.out]; exact hg.2 _ (List.getElem_mem hl1), by rw [← HB.out]; exact hg.2 _ (List.getElem_mem hl2)⟩
          rcases hda : dok a with _ | _ <;> rcases hdb : dok b with _ | _
          all_goals
            first | (exfalso; exact hdd ⟨hda, hdb⟩) | skip
          all_goals
            have HDA := Lib.hid hda
            have HDB := Lib.hid hdb
            clear hda hdb hdd
            go_wp2_with fail
            first | refine (digit_ok a _ rfl HDA.out _).mono ?_ | refine (digit_no a _ rfl HDA.out _).mono ?_
            rintro e w1 ⟨rfl, rfl⟩
            go_wp2_with fail
            first | refine (digit_ok b _ rfl HDB.out _).mono ?_ | refine (digit_no b _ rfl HDB.out _).mono ?_
            rintro e w1 ⟨rfl, rfl⟩
            go_wp2
            go_ret2
            exact .inr ⟨HN.out, rfl, hbel⟩
      · have e : t = m := by omega
        subst e
        have HO := Lib.hid hown
        clear hown
        go_wp2
        go_ret2
        have hu := HU.out
        have hx : upart (unhL l) t t = unhL l := by
          unfold upart
          rw [Nat.sub_self, List.replicate_zero, List.append_nil, List.take_of_length_le (by omega)]
        have ho := HO.out
        rw [hx] at ho
        refine .inl ⟨⟨by rw [HSZ.out, HM.out]; omega, fun c hc => ?_⟩, _, _, _, rfl, ho, hbel⟩
        obtain ⟨j, hj, rfl⟩ := List.getElem_of_mem hc
        have h1 := HSZ.out
        have h2 := HM.out
        exact HD.out j hj (by omega)
  · have hmod : ((s.size : Int) % 2 != 0) = true := by simp; omega
    have HN : Hid (¬ good l) := fun hg => hodd (by rw [← hsz]; exact hg.1)
    clear hget hsz hl
    go_enter Try.func24, Try.ntmps24
    go_wp2
    go_ret2
    exact .inr ⟨HN.out, rfl, Below.refl _ _⟩

/-- Unhex of a text that is somebody's digits. -/
def UnhexOk (w : World) (l : List UInt8) (e : Ending) (w' : World) : Prop := ∃ A n c, e = .returned (.tuple #[.slice A n c, .int .i64 0]) ∧ Own w' w.heap.size A n c (unhL l) ∧ Below w.heap.size w w'
theorem unhex_good (s : ByteArray) (l : List UInt8) (hl : s.data.toList = l) (hg : good l) (hn : l.length ≤ 1000000) (w : World) : Calls Try.prog 24 #[.string s] w (UnhexOk w l) := by
  subst hl
  refine (unhex_calls s w (by simpa using hn)).mono fun e w' h => ?_
  rcases h with ⟨_, h⟩ | ⟨h, _⟩
  · exact h
  · exact absurd hg h
/-- Unhex of a text that is nobody's. -/
theorem unhex_bad (s : ByteArray) (l : List UInt8) (hl : s.data.toList = l) (hg : ¬ good l) (hn : l.length ≤ 1000000) (w : World) :
    Calls Try.prog 24 #[.string s] w (Ret w (.tuple #[.slice none 0 0, .int .i64 3])) := by
  subst hl
  refine (unhex_calls s w (by simpa using hn)).mono fun e w' h => ?_
  rcases h with ⟨h, _⟩ | ⟨_, h⟩
  · exact absurd h hg
  · exact h
end Go.Proofs.Ytgjpfkkonmibfaa
