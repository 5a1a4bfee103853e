/- Merged texts: BitB BitC BitY. -/
import Derived.Test.YtplnmjdafchjbaaMaq
import Derived.Deep.RegionHeld3
import Derived.Deep.CutRange
import Derived.Deep.DeepCutAuto
import Derived.Test.YtplnmjdafchjbaaMan
import Derived.Test.YtplnmjdafchjbaaMam
import Derived.Test.YtplnmjdafchjbaaMao
import Derived.Test.YtplnmjdafchjbaaMap
/- The document's own Bytes, Take and Run of layer 11. -/
namespace Go.Proofs.Ytplnmjdafchjbaa
open Go.RowKit
set_option linter.unusedVariables false
set_option linter.unusedSimpArgs false

set_option maxRecDepth 100000 in
theorem own_below {w W : World} {b n c : Nat} {A : Option Addr} {l : List UInt8} (h : Own w b A n c l) (hb : Below w.heap.size w W) : Own W b A n c l := h.frm (S := fun _ => False) (Frm.of_below hb) (fun _ _ h => h)
set_option maxRecDepth 100000 in
set_option maxHeartbeats 2000000 in
theorem zbytes_calls (l : List Bool) (hl : l.length ≤ 100000) (w : World) :
    Calls Try.prog 57 #[.string (tx l)] w (Ret w (.string ⟨(pack l).toArray⟩)) := by
  obtain ⟨r, hr⟩ : ∃ z, z = (8 - l.length % 8) % 8 := ⟨_, rfl⟩
  obtain ⟨n, hn⟩ : ∃ z, z = l.length := ⟨_, rfl⟩
  have hr8 : r < 8 := by omega
  have hnr : (n + r) % 8 = 0 := by omega
  have HF : Hid (fill l = l ++ List.replicate r false) := Lib.hid (by rw [hr]; rfl)
  have HN := Lib.hid hn
  have HR := Lib.hid hr
  rw [← hn] at hl
  have he := own_empty w
  go_enter Try.func57, Try.ntmps57
  go_wp2
  go_loopw [0] (fun sv wr => ∃ (j : Nat) (s : ByteArray), sv = .string s ∧ j ≤ r ∧ s = tx (l ++ List.replicate j false) ∧ w = wr) (fun sv _ => n + r - strLen sv)
  case atStart => exact ⟨0, _, rfl, by omega, by simp, rfl⟩
  case round =>
    obtain ⟨j, s, rfl, hjr, hs, rfl⟩ := hrel
    obtain ⟨N, hNN⟩ : ∃ z, z = n + j := ⟨_, rfl⟩
    have hsz : s.size = N := by rw [hs, tx_size, List.length_append, List.length_replicate, ← HN.out, hNN]
    obtain ⟨z, hz⟩ : ∃ z, z = N % 8 := ⟨_, rfl⟩
    have r1 : Int.tmod (N : Int) 8 = (z : Int) := by rw [Int.tmod_eq_emod_of_nonneg (by omega)]; omega
    have r2 : (N : Int) % 8 = (z : Int) := by omega
    have r3 : IntKind.i64.wrap (z : Int) = (z : Int) := by rw [IntKind.wrap_i64]; omega
    by_cases hj : j < r
    · have hz0 : ¬ (z : Int) = 0 := by have := HR.out; have := HN.out; omega
      obtain ⟨s', hs'⟩ : ∃ z, z = tx (l ++ List.replicate (j + 1) false) := ⟨_, rfl⟩
      have hadd : ∀ W, (Op.stringOp .add s ⟨#[48]⟩).run Try.prog W = .ok (.string s') W := fun W => by
        rw [hs', hs, List.replicate_succ', ← List.append_assoc]
        exact tx_add (l ++ List.replicate j false) [false] (by rw [List.length_append, List.length_replicate, ← HN.out]; omega) (by simp) W
      have hsz' : s'.size = N + 1 := by rw [hs', tx_size, List.length_append, List.length_replicate, ← HN.out]; omega
      have HS := Lib.hid hs'
      clear hs hs' hz
      go_wp2
      go_roundw
      case rel => exact ⟨j + 1, s', rfl, by omega, HS.out, by first | rfl | trivial⟩
      case measure => simp [strLen, hsz, hsz']; omega
    · have e : j = r := by omega
      subst e
      have hz0 : (z : Int) = 0 := by omega
      have HS : Hid (s = tx (fill l)) := Lib.hid (by rw [HF.out, hs])
      obtain ⟨K, hK⟩ : ∃ z, z = (n + 7) / 8 := ⟨_, rfl⟩
      have hNK : N = 8 * K := by have := HR.out; omega
      have HPK : Hid (pack l = pk K (fill l)) := Lib.hid (by unfold pack; rw [← HN.out, hK])
      have HPL : Hid (pack l = pk K (fill l) ∧ K = (l.length + 7) / 8) := Lib.hid ⟨HPK.out, by rw [hK, HN.out]⟩
      have CN : Hid (∀ (k a b : Nat), a = 8 * k → b = a + 8 → ∀ W, Calls Try.prog 42 #[.string (s.extract a b)] W (Ret W (.int .u64 (num (((fill l).drop (8 * k)).take 8) : Int)))) := Lib.hid fun k a b ha hb W => by
        rw [HS.out, tx_mid, ha, show b - 8 * k = 8 from by omega]
        exact znum_calls _ (by rw [List.length_take]; omega) W
      have hK6 : K ≤ 100000 := by omega
      have hz00 : z = 0 := by omega
      have HNK := Lib.hid hNK
      subst hz00
      clear hs hz hnr hK hNK hNN HF
      go_wp2
      go_loopw [3, 4] (fun ov kv wr => ∃ (k a : Nat) (A : Option Addr) (c : Nat), kv = .int .i64 (a : Int) ∧ ov = .slice A k c ∧ a = 8 * k ∧ k ≤ K ∧ Own wr w.heap.size A k c (pk k (fill l)) ∧ Below w.heap.size w wr) (fun _ kv _ => N + 1 - (intOf kv).toNat)
      case atStart => exact ⟨0, 0, _, 0, by first | rfl | go_num, rfl, by omega, by omega, he, below_al (Below.refl _ w) _⟩
      case round =>
        obtain ⟨k, a, A, c, rfl, rfl, ha, hkK, hown, hbel⟩ := hrel
        obtain ⟨wo, hwo⟩ : ∃ x, x = wr := ⟨_, rfl⟩
        rw [← hwo] at hown hbel ⊢
        clear hwo
        by_cases hlt : a < N
        · have hlt' : (a : Int) < (N : Int) := by omega
          have hk1 : k < K := by have := HNK.out; omega
          have haN : a + 8 ≤ N := by have := HNK.out; omega
          obtain ⟨b, hb⟩ : ∃ z, z = a + 8 := ⟨_, rfl⟩
          have u1 : IntKind.i64.wrap ((a : Int) + 8) = (b : Int) := by rw [IntKind.wrap_i64]; omega
          obtain ⟨v, hv⟩ : ∃ z, z = num (((fill l).drop (8 * k)).take 8) := ⟨_, rfl⟩
          have hv8 : v < 256 := by
            have h1 := num_lt (((fill l).drop (8 * k)).take 8)
            have h2 : (2 : Nat) ^ (((fill l).drop (8 * k)).take 8).length ≤ 2 ^ 8 := Nat.pow_le_pow_right (by omega) (by rw [List.length_take]; omega)
            omega
          have CV : Hid (∀ W, Calls Try.prog 42 #[.string (s.extract a b)] W (Ret W (.int .u64 (v : Int)))) := Lib.hid fun W => by rw [hv]; exact CN.out k a b ha hb W
          have HPS : Hid (pk (k + 1) (fill l) = pk k (fill l) ++ [UInt8.ofNat v]) := Lib.hid (by rw [pk_succ, ← hv])
          have u2 : IntKind.u8.wrap (v : Int) = (v : Int) := by rw [IntKind.wrap_u8]; omega
          have hvu : (v : Int) = ((UInt8.ofNat v).toNat : Int) := by rw [UInt8.toNat_ofNat']; omega
          have hbN : b ≤ N := by omega
          have hab : a ≤ b := by omega
          have HA : Hid (b = 8 * (k + 1)) := Lib.hid (by omega)
          obtain ⟨Pk, hPk⟩ : ∃ z, z = pk k (fill l) := ⟨_, rfl⟩
          rw [← hPk] at hown HPS
          have HVU := Lib.hid hvu
          have HB := Lib.hid hb
          clear hv hPk ha hb hvu haN
          go_wp2_with (first
            | (go_at_call 42; refine (CV.out _).mono ?_; rintro e' w2 ⟨rfl, hB2⟩; have hown := own_below hown hB2; have hbel := below_more hbel hB2)
            | (at_builtin; refine app8_one _ rfl _ _ rfl w.heap.size A k c _ _ (UInt8.ofNat v) HVU.out rfl rfl hown (by omega) hbel.size ?_; intro A' c' w' hown' hbel'))
          go_roundw
          case rel => exact ⟨k + 1, b, A', c', by first | rfl | go_num, rfl, HA.out, hk1, by rw [HPS.out]; exact hown', hbel.trans hbel'⟩
          case measure => have := HB.out; simp [intOf]; omega
        · have hlt' : ¬ (a : Int) < (N : Int) := by omega
          have e : k = K := by have := HNK.out; omega
          have HE := Lib.hid e
          have hc0 := conv8 wo A k c _ hown.rd
          obtain ⟨t, ht⟩ : ∃ z, z = (⟨(pk k (fill l)).toArray⟩ : ByteArray) := ⟨_, rfl⟩
          have hcv : (convert 27 9 (.slice A k c)).run Try.prog wo = .ok (.string t) wo := by rw [ht]; exact hc0
          have HT : Hid ((⟨(pack l).toArray⟩ : ByteArray) = t) := Lib.hid (by rw [ht, e, HPK.out])
          clear hown hc0 ht e ha
          go_wp2
          go_ret
          exact ⟨by rw [HT.out]; rfl, hbel⟩
set_option maxRecDepth 100000 in
set_option maxHeartbeats 2000000 in
theorem ztake_calls (l : List Bool) (k : Nat) (hk : k ≤ 64) (w : World) :
    Calls Try.prog 68 #[.string (tx l), .int .i64 (k : Int)] w (Ret w (.tuple #[.string (tx (btL l k)), .int .u64 (btV l k : Int), .int .i64 (btE l k : Int)])) := by
  obtain ⟨s, hs⟩ : ∃ z, z = tx l := ⟨_, rfl⟩
  obtain ⟨n, hn⟩ : ∃ z, z = l.length := ⟨_, rfl⟩
  have hsz : s.size = n := by rw [hs, tx_size, hn]
  by_cases hlt : n < k
  · have h1 : btL l k = l ∧ btV l k = 0 ∧ btE l k = 2 := by unfold btL btV btE; rw [if_pos (by omega), if_pos (by omega), if_pos (by omega)]; exact ⟨rfl, rfl, rfl⟩
    have H1 : Hid (s = tx (btL l k)) := Lib.hid (by rw [h1.1, hs])
    rw [← hs, ← H1.out, h1.2.1, h1.2.2]
    have hlt' : (n : Int) < (k : Int) := by omega
    clear hs h1 hn H1
    go_enter Try.func68, Try.ntmps68
    go_wp2
    go_ret3
    exact ⟨rfl, Below.refl _ _⟩
  · have h1 : btL l k = l.drop k ∧ btV l k = num (l.take k) ∧ btE l k = 0 := by unfold btL btV btE; rw [if_neg (by omega), if_neg (by omega), if_neg (by omega)]; exact ⟨rfl, rfl, rfl⟩
    obtain ⟨s1, hs1'⟩ : ∃ z, z = tx (btL l k) := ⟨_, rfl⟩
    obtain ⟨s2, hs2'⟩ : ∃ z, z = tx (l.take k) := ⟨_, rfl⟩
    obtain ⟨v, hv⟩ : ∃ z, z = num (l.take k) := ⟨_, rfl⟩
    have hlt' : ¬ (n : Int) < (k : Int) := by omega
    have hs1 : ∀ W, (Instr.sliceAt 9 (.string s) (some (.int .i64 (k : Int))) none none).run Try.prog W = .ok (.string s1) W := fun W => by
      rw [run_sliceAt_string (h := Try.underlying9), run_slice_string_l (ht := Try.underlying9) (h0 := by omega) (h1 := by omega), hs1', h1.1, hsz, Int.toNat_natCast, hs, tx_from l k n hn.symm]
    have hs2 : ∀ W, (Instr.sliceAt 9 (.string s) none (some (.int .i64 (k : Int))) none).run Try.prog W = .ok (.string s2) W := fun W => by
      rw [run_sliceAt_string (h := Try.underlying9), run_slice_string_h (ht := Try.underlying9) (h0 := by omega) (h2 := by omega), hs2', Int.toNat_natCast, hs, tx_upto]
    have CN : Hid (∀ W, Calls Try.prog 42 #[.string s2] W (Ret W (.int .u64 (v : Int)))) := Lib.hid fun W => by rw [hs2', hv]; exact znum_calls _ (by rw [List.length_take]; omega) W
    have H1 : Hid (s1 = tx (btL l k)) := Lib.hid hs1'
    rw [← hs, h1.2.1, h1.2.2, ← hv]
    clear hs h1 hn hs1' hs2' hv
    go_enter Try.func68, Try.ntmps68
    go_upto_region 3 with fail
    refine wp_region_held_drew (S := fun _ => True) (by kernel_rfl) ?_ (fun hHeld => ?_)
    · trivial
    refine wpAnyH_take (i := 0) (v := ?_) rfl (by kernel_rfl) (by kernel_rfl) (by kernel_rfl) (fun _ _ _ h => h) (Or.inl ⟨by rfl, ?_⟩) (by assumption) ?_
    rotate_left 1
    · intro w hSw; (try dsimp only at hSw); simp only [List.getElem_toArray, List.getElem_cons_succ, List.getElem_cons_zero]; go_simp; try (with_reducible rfl)
    (try simp only [List.getElem_toArray, List.getElem_cons_succ, List.getElem_cons_zero, Act.put, List.setIfInBounds_toArray, List.set_cons_succ, List.set_cons_zero])
    refine wpAnyH_take (i := 1) (v := ?_) rfl (by kernel_rfl) (by kernel_rfl) (by kernel_rfl) (fun _ _ _ h => h) (Or.inl ⟨by rfl, ?_⟩) (by assumption) ?_
    rotate_left 1
    · intro w hSw; (try dsimp only at hSw); simp only [List.getElem_toArray, List.getElem_cons_succ, List.getElem_cons_zero]; go_simp; try (with_reducible rfl)
    (try simp only [List.getElem_toArray, List.getElem_cons_succ, List.getElem_cons_zero, Act.put, List.setIfInBounds_toArray, List.set_cons_succ, List.set_cons_zero])
    refine wpAnyH_take (i := 2) (v := .string s1) rfl (by kernel_rfl) (by kernel_rfl) (by kernel_rfl) (fun _ _ _ h => h) (Or.inl ⟨by rfl, ?_⟩) (by assumption) ?_
    · intro w hSw; (try dsimp only at hSw); simp only [List.getElem_toArray, List.getElem_cons_succ, List.getElem_cons_zero]; first | (go_simp; done) | (simp [execOp, Act.eval, hs1]; done)
    (try simp only [List.getElem_toArray, List.getElem_cons_succ, List.getElem_cons_zero, Act.put, List.setIfInBounds_toArray, List.set_cons_succ, List.set_cons_zero])
    refine wpAnyH_take (i := 3) (v := ?_) rfl (by kernel_rfl) (by kernel_rfl) (by kernel_rfl) (fun _ _ _ h => h) (Or.inl ⟨by rfl, ?_⟩) (by assumption) ?_
    rotate_left 1
    · intro w hSw; (try dsimp only at hSw); simp only [List.getElem_toArray, List.getElem_cons_succ, List.getElem_cons_zero]; go_simp; try (with_reducible rfl)
    (try simp only [List.getElem_toArray, List.getElem_cons_succ, List.getElem_cons_zero, Act.put, List.setIfInBounds_toArray, List.set_cons_succ, List.set_cons_zero])
    refine wpAnyH_take (i := 4) (v := ?_) rfl (by kernel_rfl) (by kernel_rfl) (by kernel_rfl) (fun _ _ _ h => h) (Or.inl ⟨by rfl, ?_⟩) (by assumption) ?_
    rotate_left 1
    · intro w hSw; (try dsimp only at hSw); simp only [List.getElem_toArray, List.getElem_cons_succ, List.getElem_cons_zero]; go_simp; try (with_reducible rfl)
    (try simp only [List.getElem_toArray, List.getElem_cons_succ, List.getElem_cons_zero, Act.put, List.setIfInBounds_toArray, List.set_cons_succ, List.set_cons_zero])
    refine wpAnyH_take (i := 5) (v := .string s2) rfl (by kernel_rfl) (by kernel_rfl) (by kernel_rfl) (fun _ _ _ h => h) (Or.inl ⟨by rfl, ?_⟩) (by assumption) ?_
    · intro w hSw; (try dsimp only at hSw); simp only [List.getElem_toArray, List.getElem_cons_succ, List.getElem_cons_zero]; first | (go_simp; done) | (simp [execOp, Act.eval, hs2]; done)
    (try simp only [List.getElem_toArray, List.getElem_cons_succ, List.getElem_cons_zero, Act.put, List.setIfInBounds_toArray, List.set_cons_succ, List.set_cons_zero])
    refine wpAnyH_ready (rs := [6]) (by kernel_rfl) (by simp) ?_
    refine AllReadyH.cons rfl (fun K hK => ?_) AllReadyH.nil
    (try simp only [List.getElem_toArray, List.getElem_cons_succ, List.getElem_cons_zero])
    go_simp
    go_at_call 42; refine (CN.out _).mono ?_; rintro e' x2 ⟨rfl, hB2⟩
    (try (go_wp2_with fail))
    refine hK.out _ _ ?_ (fun hHeld => ?_)
    · trivial
    clear hK K
    (try simp only [Act.put, List.setIfInBounds_toArray, List.set_cons_succ, List.set_cons_zero])
    refine wpAnyH_take (i := 7) (v := ?_) rfl (by kernel_rfl) (by kernel_rfl) (by kernel_rfl) (fun _ _ _ h => h) (Or.inl ⟨by rfl, ?_⟩) (by assumption) ?_
    rotate_left 1
    · intro w hSw; (try dsimp only at hSw); simp only [List.getElem_toArray, List.getElem_cons_succ, List.getElem_cons_zero]; go_simp; try (with_reducible rfl)
    (try simp only [List.getElem_toArray, List.getElem_cons_succ, List.getElem_cons_zero, Act.put, List.setIfInBounds_toArray, List.set_cons_succ, List.set_cons_zero])
    refine wpAnyH_take (i := 8) (v := ?_) rfl (by kernel_rfl) (by kernel_rfl) (by kernel_rfl) (fun _ _ _ h => h) (Or.inl ⟨by rfl, ?_⟩) (by assumption) ?_
    rotate_left 1
    · intro w hSw; (try dsimp only at hSw); simp only [List.getElem_toArray, List.getElem_cons_succ, List.getElem_cons_zero]; go_simp; try (with_reducible rfl)
    (try simp only [List.getElem_toArray, List.getElem_cons_succ, List.getElem_cons_zero, Act.put, List.setIfInBounds_toArray, List.set_cons_succ, List.set_cons_zero])
    refine wpAnyH_take (i := 9) (v := ?_) rfl (by kernel_rfl) (by kernel_rfl) (by kernel_rfl) (fun _ _ _ h => h) (Or.inl ⟨by rfl, ?_⟩) (by assumption) ?_
    rotate_left 1
    · intro w hSw; (try dsimp only at hSw); simp only [List.getElem_toArray, List.getElem_cons_succ, List.getElem_cons_zero]; go_simp; try (with_reducible rfl)
    (try simp only [List.getElem_toArray, List.getElem_cons_succ, List.getElem_cons_zero, Act.put, List.setIfInBounds_toArray, List.set_cons_succ, List.set_cons_zero])
    refine wpAnyH_done (by kernel_rfl) ?_ _
    go_wp2
    go_ret3
    exact ⟨by rw [← H1.out]; rfl, below_more (Below.refl _ _).drew hB2⟩
set_option maxRecDepth 100000 in
set_option maxHeartbeats 2000000 in
theorem zrun_calls (l : List Bool) (m : Nat) (hm : m < 9223372036854775808) (hl : l.length ≤ 100000) (w : World) :
    Calls Try.prog 67 #[.string (tx l), .int .i64 (m : Int)] w (Ret w (.tuple #[.string (tx (rnL l m)), .int .i64 (rnV l m : Int), .int .i64 (rnE l m : Int)])) := by
  obtain ⟨s, hs⟩ : ∃ z, z = tx l := ⟨_, rfl⟩
  obtain ⟨n, hn⟩ : ∃ z, z = l.length := ⟨_, rfl⟩
  obtain ⟨q, hq⟩ : ∃ z, z = ones l := ⟨_, rfl⟩
  have hqn : q ≤ n := by rw [hq, hn]; exact ones_le l
  have hsz : s.size = n := by rw [hs, tx_size, hn]
  have H1 : Hid (∀ i : Nat, i < q → ∀ W, (Instr.index 9 (.string s) (.int .i64 (i : Int))).run Try.prog W = .ok (.int .u8 49) W) := Lib.hid (by rw [hs, hq]; exact fun i h W => tx_one l i (ones_at l i h) W)
  have H0 : Hid (q < n → ∀ W, (Instr.index 9 (.string s) (.int .i64 (q : Int))).run Try.prog W = .ok (.int .u8 48) W) := Lib.hid (by rw [hs, hq, hn]; exact fun h W => tx_zero l _ (ones_end l h) W)
  have hn5 : n ≤ 100000 := by omega
  have HL := Lib.hid (And.intro hs (And.intro hn hq))
  obtain ⟨E, hE⟩ : ∃ z, z = rnE l m := ⟨_, rfl⟩
  have HEq : Hid (E = if m < q then 4 else if q = n then 2 else 0) := Lib.hid (by rw [hE]; unfold rnE; rw [← hq, ← hn])
  have HVq : Hid (rnV l m = if E = 0 then q else 0) := Lib.hid (by unfold rnV; rw [← hE, ← hq])
  obtain ⟨sr, hsr⟩ : ∃ z, z = tx (rnL l m) := ⟨_, rfl⟩
  have HSR : Hid (sr = if E = 0 then s.extract (q + 1) n else s) := Lib.hid (by
    rw [hsr]
    unfold rnL
    rw [← hE, ← hq]
    split
    · rw [hs, tx_from l (q + 1) n hn.symm]
    · exact hs.symm)
  obtain ⟨V, hV⟩ : ∃ z, z = rnV l m := ⟨_, rfl⟩
  rw [← hs, ← hsr, ← hV, ← hE]
  rw [← hV] at HVq
  clear hs hn hq hE hsr hV hl
  go_enter Try.func67, Try.ntmps67
  go_wp2
  go_loopw [7] (fun kv wr => ∃ (i : Nat), kv = .int .i64 (i : Int) ∧ i ≤ q ∧ wr = w) (fun kv _ => q - (intOf kv).toNat)
  case atStart => exact ⟨0, by first | rfl | go_num, by omega, rfl⟩
  case round =>
    obtain ⟨i, rfl, hiq, rfl⟩ := hrel
    by_cases hlt : i < q
    · have hlt' : (i : Int) < (n : Int) := by omega
      have hidx := H1.out i hlt
      go_wp2
      go_roundw
      case rel => exact ⟨i + 1, by go_num, by omega, by first | rfl | trivial⟩
      case measure => simp [intOf]; omega
    · have e : i = q := by omega
      subst e
      have u1 : IntKind.i64.wrap ((i : Int) + 1) = ((i + 1 : Nat) : Int) := by rw [IntKind.wrap_i64]; omega
      by_cases hmq : m < i
      · have t1 : (m : Int) < (i : Int) := by omega
        have e1 : E = 4 := by rw [HEq.out, if_pos hmq]
        have e2 : V = 0 := by rw [HVq.out, e1]; rfl
        have e3 : sr = s := by rw [HSR.out, e1]; rfl
        have HE : Hid (E = 4 ∧ V = 0 ∧ sr = s) := Lib.hid ⟨e1, e2, e3⟩
        clear HEq HVq HSR e1 e2 e3
        by_cases hin : i < n
        · have hlt' : (i : Int) < (n : Int) := by omega
          have hidx := H0.out hin
          go_wp2
          go_ret3
          exact ⟨by rw [HE.out.1, HE.out.2.1, HE.out.2.2]; rfl, Below.refl _ _⟩
        · have hlt' : ¬ (i : Int) < (n : Int) := by omega
          go_wp2
          go_ret3
          exact ⟨by rw [HE.out.1, HE.out.2.1, HE.out.2.2]; rfl, Below.refl _ _⟩
      · have t1 : ¬ (m : Int) < (i : Int) := by omega
        by_cases hin : i < n
        · have hlt' : (i : Int) < (n : Int) := by omega
          have hne : ¬ (i : Int) = (n : Int) := by omega
          have hidx := H0.out hin
          have e1 : E = 0 := by rw [HEq.out, if_neg hmq, if_neg (by omega)]
          have e2 : V = i := by rw [HVq.out, e1]; rfl
          have e3 : sr = s.extract (i + 1) n := by rw [HSR.out, e1]; rfl
          have hs1 : ∀ W, (Instr.sliceAt 9 (.string s) (some (.int .i64 ((i + 1 : Nat) : Int))) none none).run Try.prog W = .ok (.string sr) W := fun W => by
            rw [run_sliceAt_string (h := Try.underlying9), run_slice_string_l (ht := Try.underlying9) (h0 := by omega) (h1 := by omega), e3, hsz, Int.toNat_natCast]
          have HE : Hid (E = 0 ∧ V = i) := Lib.hid ⟨e1, e2⟩
          obtain ⟨i1, hi1⟩ : ∃ z, z = i + 1 := ⟨_, rfl⟩
          rw [← hi1] at u1 hs1
          clear HEq HVq HSR e1 e2 e3 hi1
          go_wp2
          go_ret3
          exact ⟨by rw [HE.out.1, HE.out.2]; rfl, Below.refl _ _⟩
        · have hlt' : ¬ (i : Int) < (n : Int) := by omega
          have hne : (i : Int) = (n : Int) := by omega
          have e1 : E = 2 := by rw [HEq.out, if_neg hmq, if_pos (by omega)]
          have e2 : V = 0 := by rw [HVq.out, e1]; rfl
          have e3 : sr = s := by rw [HSR.out, e1]; rfl
          have HE : Hid (E = 2 ∧ V = 0 ∧ sr = s) := Lib.hid ⟨e1, e2, e3⟩
          clear HEq HVq HSR e1 e2 e3
          go_wp2
          go_ret3
          exact ⟨by rw [HE.out.1, HE.out.2.1, HE.out.2.2]; rfl, Below.refl _ _⟩
end Go.Proofs.Ytplnmjdafchjbaa

/- The contracts of layer 11's own held and awake, over what package bit is to answer. -/
namespace Go.Proofs.Ytplnmjdafchjbaa
open Go.RowKit
set_option linter.unusedVariables false
set_option linter.unusedSimpArgs false

set_option maxRecDepth 100000 in
theorem blk_up {w W : World} {g : Nat} {cs : List Value} {t : TypeId} (h : Blk w g cs t) (hb : Below w.heap.size w W) : Blk W g cs t := h.below hb h.lt
set_option maxRecDepth 100000 in
theorem below_frmB {B : Nat} {S : Nat → Prop} {w W W' : World} (h : Below B w W) (hf : Frm S W W') (hs : B ≤ W.heap.size) (hS : ∀ i, S i → B ≤ i) : Below B w W' := h.trans (hf.below hs hS)
set_option maxRecDepth 100000 in
theorem pack_awake : pack ([] ++ bN 5 (hld 3 64) ++ List.replicate (hld 2 65536) true ++ bN 0 (hld 1 64)) = [184] := by decide
set_option maxRecDepth 100000 in
theorem len_awake : ([] ++ bN 5 (hld 3 64) ++ List.replicate (hld 2 65536) true ++ bN 0 (hld 1 64) : List Bool).length = 6 := by decide
end Go.Proofs.Ytplnmjdafchjbaa

/- What package bit answers, in one: its writers and its readers. -/
namespace Go.Proofs.Ytplnmjdafchjbaa
open Go.RowKit
set_option linter.unusedVariables false

/-- The writer at block p, made of the blocks S, holds the bits l. -/
def BWx (w : World) (p : Nat) (S : Nat → Prop) (l : List Bool) : Prop := ∃ A c, Wb w p A c l ∧ ∀ i, S i ↔ WS p A i
/-- The reader at block q, made of the blocks S, has the bits l left. -/
def BRx (w : World) (base q : Nat) (S : Nat → Prop) (l : List Bool) : Prop := ∃ A c b k, Rb w q A c b k ∧ l = (unp b).drop k ∧ (∀ g, blkOf A = some g → g < w.heap.size) ∧ ∀ i, S i ↔ WS q A i
set_option maxRecDepth 100000 in
theorem Rb.frm {w w' : World} {q c k : Nat} {A : Option Addr} {b : List UInt8} {X : Nat → Prop} (h : Rb w q A c b k) (hf : Frm X w w') (hX : ∀ i, X i → ¬ WS q A i) : Rb w' q A c b k := by
  refine ⟨hf.blk h.blk fun hx => hX q hx (.inl rfl), ⟨h.rd.1, fun hn => ?_⟩, h.cap, h.max, h.big, h.read⟩
  obtain ⟨g, off, e, h1, h2, h3⟩ := h.rd.2 hn
  refine ⟨g, off, e, h1, Nat.lt_of_lt_of_le h2 hf.size, fun j hj => ?_⟩
  exact (hf.cell (p := ⟨g, off + j, none⟩) h2 (fun hx => hX g hx (.inr (by rw [e]; rfl)))).trans (h3 j hj)
set_option maxRecDepth 100000 in
theorem bw_to {w w' : World} {p c c' : Nat} {A A' : Option Addr} {S : Nat → Prop} {l l' : List Bool} (hS : ∀ i, S i ↔ WS p A i) (h : Wb w' p A' c' l') (hf : Frm (WS p A) w w') (hn : ∀ g, blkOf A' = some g → blkOf A = some g ∨ w.heap.size ≤ g) :
    ∃ S', BWx w' p S' l' ∧ Frm S w w' ∧ ∀ i, S' i → S i ∨ w.heap.size ≤ i :=
  ⟨WS p A', ⟨A', c', h, fun _ => Iff.rfl⟩, hf.mono fun i hi => (hS i).2 hi, fun i hi => (ws_step hn i hi).elim (fun h => .inl ((hS i).2 h)) .inr⟩
set_option maxRecDepth 100000 in
theorem br_to {w w' : World} {base q c k' : Nat} {A : Option Addr} {b : List UInt8} {S : Nat → Prop} {l' : List Bool} (hS : ∀ i, S i ↔ WS q A i) (hl : ∀ g, blkOf A = some g → g < w.heap.size) (h : Rb w' q A c b k') (he : (unp b).drop k' = l') (hf : Frm (fun i => i = q) w w') :
    ∃ S', BRx w' base q S' l' ∧ Frm S w w' ∧ ∀ i, S' i → S i ∨ w.heap.size ≤ i :=
  ⟨S, ⟨A, c, b, k', h, he.symm, fun g hg => Nat.lt_of_lt_of_le (hl g hg) hf.size, hS⟩, hf.mono fun i hi => (hS i).2 (.inl hi), fun i hi => .inl hi⟩
end Go.Proofs.Ytplnmjdafchjbaa
